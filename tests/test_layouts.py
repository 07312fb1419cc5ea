"""Layouts [14]."""

import unittest

from risingread.errors import NoPlace, NoScheme
from risingread.plans import Plan
from risingread.schemes import Scheme
from tests.helper import Case, anything

# For each number of places and each single one: the places of the cells, the looks and the tests.
LAYOUTS = {
    (1, 0): ([0], (0,), ()),
    (2, 0): ([1, 0, 1], (1, 0, 2, 1), ((0, 3), (1, 2))),
    (2, 1): ([0, 1, 0], (2, 1, 0), ((0, 2),)),
    (3, 0): ([2, 1, 0, 1, 2], (2, 1, 0, 4, 3, 2), ((0, 5), (1, 4), (2, 3))),
    (3, 1): ([0, 2, 1, 2, 0], (4, 2, 1, 3, 2, 0), ((0, 5), (1, 4), (2, 3))),
    (3, 2): ([0, 1, 2, 1, 0], (4, 3, 2, 1, 0), ((0, 4), (1, 3))),
    (4, 0): ([3, 2, 1, 0, 1, 2, 3], (3, 2, 1, 0, 6, 5, 4, 3), ((0, 7), (1, 6), (2, 5), (3, 4))),
    (4, 1): ([0, 3, 2, 1, 2, 3, 0], (6, 3, 2, 1, 5, 4, 3, 0), ((0, 7), (1, 6), (2, 5), (3, 4))),
    (4, 2): ([0, 1, 3, 2, 3, 1, 0], (6, 5, 3, 2, 4, 3, 1, 0), ((0, 7), (1, 6), (2, 5), (3, 4))),
    (4, 3): ([0, 1, 2, 3, 2, 1, 0], (6, 5, 4, 3, 2, 1, 0), ((0, 6), (1, 5), (2, 4))),
}


class TestLayouts(Case):

    def test_all_layouts(self):
        for (places, single), (cells, looks, tests) in LAYOUTS.items():
            told = Plan.layout("num", places, single)
            self.assertIs(told.__class__, tuple)
            scheme, plan = told
            self.assertEqual(scheme, Scheme([("num", places, "strict")], [("num", place) for place in cells]))
            self.assertEqual(plan.scheme, scheme)
            self.assert_same((plan.looks, plan.tests), (looks, tests))
            self.assertIs(plan.__class__, Plan)

    def test_cells_and_looks(self):
        for places, single in LAYOUTS:
            scheme, plan = Plan.layout("n", places, single)
            for place in range(places):
                self.assertEqual(len(scheme.cells_of("n", place)), 1 if place == single else 2)
            self.assertEqual(len(plan), 2 * places - 1 if single == places - 1 else 2 * places)
            twice = [place for place in range(places) if len(looks_at(plan, place)) == 2]
            self.assertEqual([looks_at(plan, place) for place in twice], [list(pair) for pair in plan.tests])

    def test_the_same_again(self):
        for places, single in LAYOUTS:
            self.assertEqual(Plan.layout("n", places, single), Plan.layout("n", places, single))

    def test_names_and_places_that_are_none(self):
        names = ["", "N", "n1", "abcdefghijklm", "a b", "\u00e4", None, 0, True, ["n"], ("n",), {}]
        for name in names:
            for single in (0, 5, None):
                self.assert_raises(NoScheme, ["numbers", 0], Plan.layout, name, 2, single)
        for places in [0, 5, -1, 10 ** 59, True, False, None, "2", [2], (2,), {}]:
            for single in (0, 1, -1, None, []):
                self.assert_raises(NoScheme, ["numbers", 0], Plan.layout, "n", places, single)
                self.assert_raises(NoScheme, ["numbers", 0], Plan.layout, None, places, single)
        for thing in anything():
            if thing not in ("n", "strict"):
                self.assert_raises(NoScheme, ["numbers", 0], Plan.layout, thing, 2, 0)
            if repr(thing) != "1":
                self.assert_raises(NoScheme, ["numbers", 0], Plan.layout, "n", thing, 0)

    def test_single_places_that_are_none(self):
        for places in range(1, 5):
            for single in [places, places + 1, -1, -places, 10 ** 59, "0"] + anything():
                if repr(single) not in [repr(place) for place in range(places)]:
                    self.assert_raises(NoPlace, [single], Plan.layout, "n", places, single)


def looks_at(plan, place):
    """The list of the looks at the place."""
    return [look for look in range(len(plan)) if plan.place_at(look)[1] == place]


if __name__ == "__main__":
    unittest.main()
