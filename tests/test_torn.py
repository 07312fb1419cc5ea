"""Torn contents [43], [44]."""

import itertools
import unittest

from risingread.errors import NoName
from risingread.fewest import Torn, full_plan, shows_torn, torn
from risingread.judge import judge
from risingread.plans import Plan
from risingread.runs import play
from risingread.schemes import Scheme
from tests.brute import KINDS, rows_of
from tests.changes import changed
from tests.helper import Case, anything, readings_of, written

LOW_FIRST = Scheme([("n", 2, "strict")], [("n", 1), ("n", 0)])
BESIDE = Scheme([("s", 1, "strict"), ("n", 2, "weak"), ("t", 2, "strict")],
                [("n", 0), ("s", 0), ("t", 1), ("n", 1), ("t", 0), ("t", 1)])


def schemes_of(numbers, more):
    """All schemes of these numbers with so many cells more than places at most."""
    places = [(name, place) for name, many, _ in numbers for place in range(many)]
    found = []
    for extra in range(more + 1):
        for chosen in itertools.combinations_with_replacement(places, extra):
            cells = sorted(set(itertools.permutations(places + list(chosen))))
            found.extend(Scheme(numbers, list(row)) for row in cells)
    return found


def standing(scheme, versions, moment):
    """The digits of the cells behind so many writes."""
    holds = written(Plan(scheme, [0], []), moment)
    return [versions[version][name][place] for version, (name, place) in zip(holds, scheme.cells)]


def is_torn(scheme, name, versions, moment, digits):
    """Whether it is torn by the words of [43], of versions that follow one another."""
    cells = standing(scheme, versions, moment)
    held = {}
    for place, digit in zip(scheme.cells, cells):
        held.setdefault(place, set()).add(digit)
    if any(len(digits_of) > 1 for digits_of in held.values()):
        return False
    heard = tuple(min(held[name, place]) for place in range(scheme.places_of(name)))
    return heard == digits and heard not in (versions[0][name], versions[1][name])


def search(scheme, name):
    """The least moment at which some versions with digits 0 and 1 are torn, or None."""
    rows = [[(known, row) for row in rows_of(kind, places, 2, 2)] for known, places, kind in scheme.numbers]
    for moment in range(1, len(scheme.cells)):
        for chosen in itertools.product(*rows):
            versions = [{known: row[at] for known, row in chosen} for at in range(2)]
            cells = standing(scheme, versions, moment)
            heard = tuple(cells[scheme.cells.index((name, place))] for place in range(scheme.places_of(name)))
            if is_torn(scheme, name, versions, moment, heard):
                return moment
    return None


def parted(scheme, name, moment):
    """The pairs of places of which one is wholly written at the moment and the other one not at all, ascending."""
    done = [[cell < moment for cell, place in enumerate(scheme.cells) if place == (name, at)]
            for at in range(scheme.places_of(name))]
    return [(one, other) for one, other in itertools.combinations(range(len(done)), 2)
            if all(done[one]) and not any(done[other]) or all(done[other]) and not any(done[one])]


class TestTorn(Case):

    def assert_told(self, scheme, name):
        """Assert that what is told is the one that [44] names, and return it."""
        found = torn(scheme, name)
        wanted = search(scheme, name)
        if wanted is None:
            self.assertIsNone(found, (scheme.numbers, scheme.cells))
            return None
        self.assertIs(found.__class__, Torn)
        self.assert_same(found.moment, wanted)
        higher, lower = parted(scheme, name, wanted)[0]
        first = {known: [0] * places for known, places, _ in scheme.numbers}
        second = {known: [0] * places for known, places, _ in scheme.numbers}
        first[name][lower] = second[name][higher] = 1
        for known, places, kind in scheme.numbers:
            if known != name and kind == "strict":
                second[known][self.settled(scheme, known, places, wanted)] = 1
        self.assert_same(found.versions, tuple({known: tuple(digits) for known, digits in version.items()}
                                               for version in (first, second)))
        self.assertTrue(is_torn(scheme, name, found.versions, found.moment, found.digits))
        self.assertIs(found.digits.__class__, tuple)
        self.assertIs(shows_torn(scheme, name, found), True)
        return found

    def settled(self, scheme, name, places, moment):
        """The first place all of whose cells are written at the moment, or none."""
        for place in range(places):
            done = {cell < moment for cell, known in enumerate(scheme.cells) if known == (name, place)}
            if len(done) == 1:
                return place
        return None

    def test_one_number(self):
        for kind in KINDS:
            for places, more in [(1, 2), (2, 3), (3, 1)]:
                for scheme in schemes_of([("n", places, kind)], more):
                    self.assert_told(scheme, "n")

    def test_two_and_three_numbers(self):
        told = set()
        for kind, other in itertools.product(KINDS, KINDS):
            for scheme in schemes_of([("n", 2, kind), ("s", 1, other)], 1) + schemes_of([("s", 2, other), ("n", 2, kind)], 0):
                told.add((other, self.assert_told(scheme, "n") is None))
                self.assert_told(scheme, "s")
        self.assertIn(("strict", True), told)
        for scheme in schemes_of([("s", 1, "strict"), ("n", 2, "weak"), ("t", 1, "strict")], 0)[::3] + [BESIDE]:
            for name, _, _ in scheme.numbers:
                self.assert_told(scheme, name)

    def test_the_first_place_of_another_number_that_can_rise(self):
        # At moment 1 place 1 of t is not begun, place 0 neither: place 0 rises.
        found = self.assert_told(BESIDE, "n")
        self.assert_same((found.moment, found.versions[1]), (1, {"s": (1,), "n": (1, 0), "t": (1, 0)}))
        scheme = Scheme([("n", 2, "free"), ("t", 2, "strict")], [("t", 0), ("n", 1), ("t", 1), ("n", 0), ("t", 0)])
        found = self.assert_told(scheme, "n")
        self.assert_same(found.moment, 2)
        self.assert_same(found.versions, ({"n": (0, 1), "t": (0, 0)}, {"n": (1, 0), "t": (0, 1)}))
        self.assert_same(found.digits, (0, 0))

    def test_both_digits_that_can_stand(self):
        for cells, digits in [([("n", 1), ("n", 0)], (0, 0)), ([("n", 0), ("n", 1)], (1, 1))]:
            found = torn(Scheme([("n", 2, "strict")], cells), "n")
            self.assert_same((found.versions, found.moment, found.digits),
                             (({"n": (0, 1)}, {"n": (1, 0)}), 1, digits))
        found = torn(Scheme([("n", 3, "free")], [("n", 2), ("n", 0), ("n", 1)]), "n")
        self.assert_same((found.versions, found.moment, found.digits),
                         (({"n": (0, 0, 1)}, {"n": (1, 0, 0)}), 1, (0, 0, 0)))
        found = torn(Scheme([("n", 3, "free")], [("n", 1), ("n", 0), ("n", 2)]), "n")
        self.assert_same((found.versions, found.moment, found.digits),
                         (({"n": (0, 1, 0)}, {"n": (1, 0, 0)}), 1, (0, 0, 0)))

    def test_one_place_and_layouts_have_none(self):
        for kind in KINDS:
            for many in (1, 2, 8):
                self.assertIsNone(torn(Scheme([("n", 1, kind)], [("n", 0)] * many), "n"))
        for places in (2, 3, 4):
            for single in range(places):
                scheme, plan = Plan.layout("n", places, single)
                self.assertIsNone(torn(scheme, "n"))
                self.assertIs(bool(judge(plan, ("stood", readings_of(plan)[0]))), True)

    def test_two_m_less_one_cells_are_the_fewest(self):
        for kind in KINDS:
            for places, more in [(2, 0), (3, 1)]:
                for scheme in schemes_of([("n", places, kind)], more):
                    self.assertIsNotNone(torn(scheme, "n"))

    def test_another_number_can_help(self):
        # A strict number of one place, with one cell ahead of all and one behind all.
        numbers = [("n", 3, "weak"), ("s", 1, "strict")]
        places = [("n", 2), ("n", 0), ("n", 1)]
        self.assertIsNone(torn(Scheme(numbers, [("s", 0)] + places + [("s", 0)]), "n"))
        self.assertIsNotNone(torn(Scheme(numbers, [("s", 0)] + places), "n"))
        self.assertIsNotNone(torn(Scheme(numbers, places + [("s", 0)]), "n"))
        weak = [("n", 3, "weak"), ("s", 1, "weak")]
        self.assertIsNotNone(torn(Scheme(weak, [("s", 0)] + places + [("s", 0)]), "n"))

    def test_no_plan_of_torn_contents_keeps_what_stood(self):
        for scheme in [LOW_FIRST, Scheme([("n", 3, "weak")], [("n", 0), ("n", 2), ("n", 1), ("n", 2)])]:
            found = torn(scheme, "n")
            for looks in itertools.permutations(range(len(scheme.cells))):
                plan = full_plan(scheme, list(looks))
                run = (found.versions, ("write",) * found.moment + ("look",) * len(looks))
                played = play(plan, run)
                self.assertIs(played.passes, True)
                for reading in readings_of(plan):
                    self.assert_same(played.answer(reading), found.digits)
                    self.assertIs(bool(judge(plan, ("stood", reading))), False)
                    self.assertIs(bool(judge(plan, ("between", reading))), False)

    def test_the_same_again_and_new_dicts(self):
        one, other = torn(LOW_FIRST, "n"), torn(LOW_FIRST, "n")
        self.assertTrue(one == other)
        self.assertIsNot(one.versions[0], other.versions[0])
        one.versions[0]["n"] = (5, 5)
        self.assertEqual(torn(LOW_FIRST, "n"), other)

    def test_no_name(self):
        for thing in anything() + ["m", "N", ("n",), ["n"]]:
            if thing != "n":
                self.assert_raises(NoName, [thing], torn, LOW_FIRST, thing)
                self.assert_raises(NoName, [thing], shows_torn, LOW_FIRST, thing, torn(LOW_FIRST, "n"))
                self.assert_raises(NoName, [thing], shows_torn, LOW_FIRST, thing, None)


class TestShowsTorn(Case):

    def test_other_versions_and_digits_that_are_torn_too(self):
        for versions, digits in [(({"n": (0, 9)}, {"n": (7, 3)}), (0, 3)), (({"n": (3, 1)}, {"n": (4, 2)}), (3, 2)),
                                 (({"n": (0, 10 ** 59)}, {"n": (10 ** 59, 0)}), (0, 0)),
                                 (({"n": (0, 0)}, {"n": (1, 1)}), (0, 1))]:
            self.assertIs(shows_torn(LOW_FIRST, "n", Torn(versions, 1, digits)), True)
            self.assertIs(shows_torn(LOW_FIRST, "n", Torn(versions, 1, digits[::-1])), digits == digits[::-1])

    def test_versions_that_are_not_torn(self):
        for versions, digits in [(({"n": (0, 9)}, {"n": (0, 10)}), (0, 10)), (({"n": (0, 5)}, {"n": (1, 5)}), (0, 5)),
                                 (({"n": (1, 0)}, {"n": (0, 1)}), (1, 1)), (({"n": (1, 0)}, {"n": (1, 0)}), (1, 0))]:
            self.assertIs(shows_torn(LOW_FIRST, "n", Torn(versions, 1, digits)), False)

    def test_copies_that_hold_two_digits(self):
        scheme = Scheme([("n", 2, "free"), ("d", 1, "free")], [("d", 0), ("n", 1), ("n", 0), ("d", 0)])
        for first, second, wanted in [(0, 0, True), (4, 4, True), (0, 1, False)]:
            versions = ({"n": (0, 1), "d": (first,)}, {"n": (1, 0), "d": (second,)})
            self.assertIs(shows_torn(scheme, "n", Torn(versions, 2, (0, 0))), wanted)
        self.assertIs(shows_torn(scheme, "d", Torn(versions, 2, (0,))), False)

    def test_weak_and_free_numbers(self):
        cells = [("n", 1), ("n", 0)]
        falls = ({"n": (1, 0)}, {"n": (0, 1)})
        for kind in KINDS:
            self.assertIs(shows_torn(Scheme([("n", 2, kind)], cells), "n", Torn(falls, 1, (1, 1))), kind == "free")

    def test_each_change(self):
        found = torn(LOW_FIRST, "n")
        moments = [-1, 0, 2, 3, True, "1", None, [1], (1,), 10 ** 59]
        for moment in moments:
            self.assertIs(shows_torn(LOW_FIRST, "n", Torn(found.versions, moment, found.digits)), False)
        for digits in changed(found.digits):
            is_same = repr(digits) == repr(found.digits)
            self.assertIs(shows_torn(LOW_FIRST, "n", Torn(found.versions, 1, digits)), is_same, digits)
        for versions in changed(found.versions):
            self.assertIs(shows_torn(LOW_FIRST, "n", Torn(versions, 1, found.digits)), False, versions)
        for version in [{}, {"m": (0, 1)}, {"n": (0, 1), "m": (0,)}, {"n": [0, 1]}, {"n": (0,)}, {"n": (0, 1, 0)},
                        {"n": (False, True)}, {"n": (0, -1)}, {"n": (0, "1")}, {"n": None}, {0: (0, 1)}, [("n", (0, 1))]]:
            self.assertIs(shows_torn(LOW_FIRST, "n", Torn((version, found.versions[1]), 1, (0, 0))), False)
            self.assertIs(shows_torn(LOW_FIRST, "n", Torn((found.versions[0], version), 1, (0, 0))), False)
        self.assertIs(shows_torn(LOW_FIRST, "n", Torn(list(found.versions), 1, (0, 0))), False)
        self.assertIs(shows_torn(LOW_FIRST, "n", Torn(found.versions, 1, (0, 0))), True)

    def test_by_the_words_of_the_document(self):
        for scheme in [LOW_FIRST, BESIDE, Scheme([("n", 2, "weak")], [("n", 0), ("n", 1), ("n", 0)])]:
            rows = [[(known, row) for row in rows_of(kind, places, 2, 2)] for known, places, kind in scheme.numbers]
            for chosen in list(itertools.product(*rows))[::5]:
                versions = tuple({known: row[at] for known, row in chosen} for at in range(2))
                for moment in range(len(scheme.cells) + 1):
                    for digits in itertools.product(range(2), repeat=2):
                        wanted = 1 <= moment < len(scheme.cells) and is_torn(scheme, "n", versions, moment, digits)
                        self.assertIs(shows_torn(scheme, "n", Torn(versions, moment, digits)), wanted)

    def test_any_other_value(self):
        found = torn(LOW_FIRST, "n")
        for thing in anything() + [(found.versions, 1, (0, 0)), LOW_FIRST, None]:
            self.assertIs(shows_torn(LOW_FIRST, "n", thing), False)
            self.assertIs(shows_torn(LOW_FIRST, "n", Torn(thing, thing, thing)), False)
        self.assertIs(shows_torn(BESIDE, "n", found), False)


class TestMadeByHand(Case):

    def test_attributes_and_equality(self):
        things = anything()
        for thing in things:
            one = Torn(thing, 1, ())
            self.assert_same([one.versions, one.moment, one.digits], [thing, 1, ()])
            self.assertTrue(one == Torn(thing, 1, ()))
            self.assertFalse(one == Torn(thing, 2, ()))
            self.assertFalse(one == Torn(thing, 1, (0,)))
            self.assertFalse(one == Torn((thing, thing), 1, ()))
            self.assertFalse(one == (thing, 1, ()))
            self.assertFalse(one == thing)
            self.assertTrue(one != Torn(thing, 1, [0]))

    def test_what_is_kept_is_copied(self):
        versions = [{"n": [0]}]
        digits = [[1]]
        one = Torn(versions, digits, digits)
        versions[0]["n"].append(2)
        versions.append(3)
        digits[0].append(4)
        self.assert_same([one.versions, one.moment, one.digits], [[{"n": [0]}], [[1]], [[1]]])


if __name__ == "__main__":
    unittest.main()
