"""What several tests need."""

import itertools
import unittest

from risingread.plans import Plan
from risingread.schemes import Scheme


def anything():
    """Values of all kinds that may be passed where a value of one kind should be."""
    return [
        0, 1, -1, 7, 100, 10 ** 40, -10 ** 40, True, False, None, "", "n", "2", "strict", "1/2",
        [], [2], [True], ["n", 0], [[2], [3]], (), (2,), (None,), ("n", 0), ("n", False), ((2, 3),),
        {}, {"n": "m"}, {0: 2, 1: 3}, [{}], ({"n": [0]},),
    ]


def plan_of(places, kind, cells, looks, tests=()):
    """A plan of one number n, each of whose cells is told by its place alone."""
    return Plan(Scheme([("n", places, kind)], [("n", place) for place in cells]), list(looks), list(tests))


def readings_of(plan):
    """All readings of a plan."""
    found = []
    for name, places, _ in plan.scheme.numbers:
        looks = [[look for look in range(len(plan.looks)) if plan.scheme.cells[plan.looks[look]] == (name, place)]
                 for place in range(places)]
        found.extend((name, chosen) for chosen in itertools.product(*looks))
    return found


def promises_of(plan):
    """All promises of a plan."""
    kinds = {name: kind for name, _, kind in plan.scheme.numbers}
    found = [("stood", reading) for reading in readings_of(plan)]
    rising = [reading for reading in readings_of(plan) if kinds[reading[0]] != "free"]
    found.extend((word, reading) for word in ("below", "above", "between") for reading in rising)
    found.extend(("order", one, other) for one in rising for other in rising if one[0] == other[0])
    for many in range(2, len(plan.looks) + 1):
        found.extend(("together", chosen) for chosen in itertools.combinations(range(len(plan.looks)), many))
    return found


def written(plan, writes):
    """For each cell the version that it holds behind so many writes, found by writing them."""
    cells = [0] * len(plan.scheme.cells)
    for write in range(writes):
        cells[write % len(cells)] = 1 + write // len(cells)
    return cells


def exact(thing):
    """The value with the kinds of all that is in it: unlike ==, this parts 1 from True."""
    return repr(thing)


class Case(unittest.TestCase):
    """A test case that also asks for the fields of an error."""

    def assert_raises(self, error, fields, call, *passed):
        """Assert that the call raises just this error, with these fields in this order."""
        with self.assertRaises(error) as caught:
            call(*passed)
        self.assertIs(caught.exception.__class__, error)
        self.assertEqual(exact(list(vars(caught.exception).values())), exact(list(fields)))

    def assert_same(self, one, other):
        """Assert that two values are equal, and of equal kinds throughout."""
        self.assertEqual(one, other)
        self.assertEqual(exact(one), exact(other))

    def assert_stays(self, call, *passed):
        """Assert that the call changes nothing passed, and gives the same answer as a new list again."""
        before = exact(passed)
        first = call(*passed)
        second = call(*passed)
        self.assert_same(first, second)
        self.assertEqual(exact(passed), before)
        if isinstance(first, list):
            self.assertIsNot(first, second)
            first.append("more")
            self.assert_same(call(*passed), second)
