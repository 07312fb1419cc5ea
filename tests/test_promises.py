"""Readings and promises [12], and their mirrors [13]."""

import itertools
import unittest

from risingread.errors import NoPromise
from risingread.plans import Plan
from risingread.schemes import Scheme
from tests.helper import Case, anything, plan_of, promises_of, readings_of

NUMBERS = [("n", 2, "strict"), ("m", 1, "free"), ("d", 2, "weak")]
CELLS = [("n", 1), ("m", 0), ("n", 0), ("d", 0), ("d", 1), ("n", 1)]
# The looks are at n 1, n 0, m 0, d 1, d 0, n 1, n 0.
PLAN = Plan(Scheme(NUMBERS, CELLS), [5, 2, 1, 4, 3, 0, 2], [(0, 5), (1, 6)])
N = ("n", (1, 0))
D = ("d", (4, 3))
M = ("m", (2,))
NO_READINGS = [
    ("n", (0, 1)), ("n", (1,)), ("n", (1, 0, 5)), ("n", ()), ("n", [1, 0]), ["n", (1, 0)], ("n",), ("n", (1, 0), 0),
    ("n", (1, 3)), ("n", (4, 0)), ("n", (4, 3)), ("d", (1, 0)), ("d", (3, 4)), ("m", (1,)), ("m", ()), ("m", (2, 2)),
    ("x", (1, 0)), ("x", ()), ("", (2,)), (None, (2,)), (0, (2,)), (True, (2,)), (("n",), (1, 0)), (["n"], (1, 0)),
    ({}, (1, 0)), ("n", (True, 0)), ("n", (1, False)), ("n", (1, 7)), ("n", (1, -2)), ("n", (-6, 0)),
    ("n", (1, 10 ** 59)), ("n", ("1", "0")), ("n", (1, None)), ("n", ((1,), (0,))), ("n", ([1], 0)), ("n", ({}, 0)),
    ("n", "10"), ("n", 10), ("n", None), ("n", {1: 0}), "n", "n10", (("n", (1, 0)),),
]


class TestReadings(Case):

    def test_all_readings(self):
        self.assertEqual(len(readings_of(PLAN)), 4 + 1 + 1)
        for reading in readings_of(PLAN):
            self.assertIs(PLAN.is_reading(reading), True, reading)

    def test_each_choice_of_looks(self):
        known = readings_of(PLAN)
        for name in ("n", "m", "d", "x"):
            for many in range(4):
                for chosen in itertools.product(range(-1, 8), repeat=many):
                    self.assertIs(PLAN.is_reading((name, chosen)), (name, chosen) in known, (name, chosen))

    def test_what_is_none(self):
        for thing in NO_READINGS + anything() + promises_of(PLAN):
            self.assertIs(PLAN.is_reading(thing), False, thing)

    def test_a_place_that_is_not_looked_at(self):
        plan = plan_of(2, "strict", [0, 1], [0, 0])
        self.assertEqual(readings_of(plan), [])
        for chosen in [(0,), (0, 1), (0, 0), (1, 0)]:
            self.assertIs(plan.is_reading(("n", chosen)), False)

    def test_four_places(self):
        plan = plan_of(4, "free", [3, 1, 0, 2], [0, 1, 2, 3])
        self.assertIs(plan.is_reading(("n", (2, 1, 3, 0))), True)
        self.assertIs(plan.is_reading(("n", (2, 1, 3))), False)
        self.assertIs(plan.is_reading(("n", (2, 1, 0, 3))), False)


class TestPromises(Case):

    def test_all_promises(self):
        for promise in promises_of(PLAN):
            self.assertIs(PLAN.is_promise(promise), True, promise)

    def test_each_word_and_reading(self):
        for word in ("below", "above", "between", "stood"):
            for reading in readings_of(PLAN):
                wanted = word == "stood" or reading[0] != "m"
                self.assertIs(PLAN.is_promise((word, reading)), wanted, (word, reading))
            for reading in NO_READINGS + anything():
                self.assertIs(PLAN.is_promise((word, reading)), False, (word, reading))

    def test_order(self):
        for one in readings_of(PLAN):
            for other in readings_of(PLAN):
                wanted = one[0] == other[0] and one[0] != "m"
                self.assertIs(PLAN.is_promise(("order", one, other)), wanted, (one, other))
        for wrong in NO_READINGS + anything():
            self.assertIs(PLAN.is_promise(("order", N, wrong)), False, wrong)
            self.assertIs(PLAN.is_promise(("order", wrong, N)), False, wrong)
            self.assertIs(PLAN.is_promise(("order", wrong, wrong)), False, wrong)

    def test_together(self):
        for many in range(4):
            for chosen in itertools.product(range(-1, 8), repeat=many):
                wanted = many >= 2 and list(chosen) == sorted(set(chosen)) and 0 <= chosen[0] and chosen[-1] < 7
                self.assertIs(PLAN.is_promise(("together", chosen)), wanted, chosen)
        self.assertIs(PLAN.is_promise(("together", tuple(range(7)))), True)
        self.assertIs(PLAN.is_promise(("together", tuple(range(8)))), False)
        for chosen in [[0, 1], (0, True), (False, 1), (0, "1"), (0, None), (0, (1,)), (0, [1]), ({}, 1), {0: 1}, "01",
                       N, ((0, 1),), 10 ** 59, (0, 10 ** 59)] + anything():
            self.assertIs(PLAN.is_promise(("together", chosen)), False, chosen)

    def test_words_that_are_none(self):
        for word in ("", "Below", "below ", "beside", "under", "reading", "tests", "n") + tuple(anything()):
            for parts in [(N,), (N, N), ((0, 1),), ()]:
                self.assertIs(PLAN.is_promise((word,) + parts), False, (word, parts))

    def test_too_few_and_too_many_parts(self):
        for word in ("below", "above", "between", "stood", "together", "order"):
            self.assertIs(PLAN.is_promise(word), False)
            self.assertIs(PLAN.is_promise((word,)), False)
            self.assertIs(PLAN.is_promise((word, N, N, N)), False)
            self.assertIs(PLAN.is_promise([word, N]), False)
            self.assertIs(PLAN.is_promise([word, N, N]), False)
            self.assertIs(PLAN.is_promise([word, (0, 1)]), False)
        for word in ("below", "above", "between", "stood", "together"):
            self.assertIs(PLAN.is_promise((word, N, N)), False)
            self.assertIs(PLAN.is_promise((word, (0, 1), (0, 1))), False)
        self.assertIs(PLAN.is_promise(("order", N)), False)
        self.assertIs(PLAN.is_promise(("below", "n", (1, 0))), False)

    def test_of_anything(self):
        for thing in anything() + NO_READINGS + readings_of(PLAN) + [{"below": N}, ("below", ("below", N))]:
            self.assertIs(PLAN.is_promise(thing), False, thing)


class TestMirrors(Case):

    def test_a_mirror(self):
        mirror = PLAN.mirror()
        self.assertIs(mirror.__class__, Plan)
        self.assert_same(mirror.scheme.numbers, tuple(NUMBERS))
        self.assert_same(mirror.scheme.cells, (("n", 1), ("d", 1), ("d", 0), ("n", 0), ("m", 0), ("n", 1)))
        self.assert_same(mirror.looks, (3, 5, 2, 1, 4, 3, 0))
        self.assert_same(mirror.tests, ((1, 6), (0, 5)))

    def test_tests_stay_in_their_order(self):
        plan = plan_of(1, "strict", [0, 0], [0, 1, 0, 1], [(2, 3), (0, 1), (0, 3), (1, 2)])
        self.assert_same(plan.mirror().tests, ((0, 1), (2, 3), (0, 3), (1, 2)))
        plan = plan_of(1, "strict", [0], [0, 0, 0], [(0, 1), (0, 2)])
        self.assert_same(plan.mirror().tests, ((1, 2), (0, 2)))

    def test_the_mirror_of_the_mirror(self):
        plans = [PLAN, plan_of(1, "free", [0], [0])] + [Plan.layout("n", 3, single)[1] for single in range(3)]
        for plan in plans:
            self.assertEqual(plan.mirror().mirror(), plan)
            for look in range(len(plan)):
                self.assertEqual(plan.mirror().place_at(len(plan) - 1 - look), plan.place_at(look))

    def test_turned_promises(self):
        # Look 0 becomes look 6, look 1 look 5 and so on.
        self.assert_same(PLAN.turned(("below", N)), ("above", ("n", (5, 6))))
        self.assert_same(PLAN.turned(("above", ("n", (6, 0)))), ("below", ("n", (0, 6))))
        self.assert_same(PLAN.turned(("between", D)), ("between", ("d", (2, 3))))
        self.assert_same(PLAN.turned(("stood", M)), ("stood", ("m", (4,))))
        self.assert_same(PLAN.turned(("order", N, ("n", (6, 5)))), ("order", ("n", (0, 1)), ("n", (5, 6))))
        self.assert_same(PLAN.turned(("together", (0, 1, 4))), ("together", (2, 5, 6)))

    def test_turned_again(self):
        mirror = PLAN.mirror()
        for promise in promises_of(PLAN):
            turned = PLAN.turned(promise)
            self.assertIs(mirror.is_promise(turned), True, promise)
            self.assert_same(mirror.turned(turned), promise)

    def test_no_promise(self):
        things = anything() + readings_of(PLAN) + [("below", M), ("order", N, D), ("together", (1, 0)), ["below", N]]
        for thing in things + [("below", reading) for reading in NO_READINGS]:
            self.assert_raises(NoPromise, [thing], PLAN.turned, thing)

    def test_the_same_again(self):
        self.assertEqual(PLAN.mirror(), PLAN.mirror())
        before = (PLAN.looks, PLAN.tests, PLAN.scheme.cells)
        for promise in promises_of(PLAN):
            self.assert_stays(PLAN.turned, promise)
        self.assert_same((PLAN.looks, PLAN.tests, PLAN.scheme.cells), before)


if __name__ == "__main__":
    unittest.main()
