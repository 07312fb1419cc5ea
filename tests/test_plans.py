"""Plans [11]: looks, tests, and where they are."""

import unittest

from risingread.errors import NoLook, NoPlan
from risingread.plans import Order, Plan, Table
from risingread.schemes import Scheme
from tests.helper import Case, anything

NUMBERS = [("n", 2, "strict"), ("mark", 1, "free"), ("d", 2, "weak")]
CELLS = [("n", 1), ("mark", 0), ("n", 0), ("d", 0), ("d", 1), ("n", 1), ("mark", 0)]
SCHEME = Scheme(NUMBERS, CELLS)
LOOKS = [6, 2, 0, 3, 5, 4, 1, 2]
TESTS = [(2, 4), (1, 7), (0, 6)]
NO_LOOKS = [7, 8, -1, -7, 10 ** 59, True, False, None, "", "0", "n", [], [0], (), (0,), {}, {0: 1}, ("n", 0)]
NO_TESTS = [
    (4, 2), (2, 2), (0, 1), (2, 3), (1, 2), (3, 5), (0, 8), (1, 8), (-1, 7), (-2, -1), (7, 10 ** 59),
    (2,), (2, 4, 4), (), [2, 4], None, 2, "24", True, {}, {2: 4}, (False, 6), (2, True), (True, 7),
    ("2", "4"), (None, 4), (2, None), ([2], 4), ((2,), (4,)), ({}, 4), ((2, 4),),
]


class TestMaking(Case):

    def test_attributes(self):
        plan = Plan(SCHEME, LOOKS, TESTS)
        self.assert_same(plan.looks, tuple(LOOKS))
        self.assert_same(plan.tests, tuple(TESTS))
        self.assertEqual(plan.scheme, SCHEME)

    def test_class_values(self):
        self.assert_same((Plan.LOOKS, Plan.TESTS), (8, 8))

    def test_a_plan_is_an_order_and_a_table(self):
        plan = Plan(SCHEME, LOOKS, TESTS)
        self.assertIsInstance(plan, Order)
        self.assertIsInstance(plan, Table)
        self.assertFalse(issubclass(Order, Table) or issubclass(Table, Order))

    def test_listed_methods_stand_in_the_class_itself(self):
        self.assertIn("position", vars(Order))
        for name in ("position", "place_at", "is_reading", "is_promise", "mirror", "turned", "layout", "__eq__",
                     "__len__"):
            self.assertIn(name, vars(Plan))

    def test_least_and_greatest_plans(self):
        for cell in range(7):
            self.assert_same(Plan(SCHEME, [cell], []).looks, (cell,))
        tests = [(one, other) for one in range(8) for other in range(one + 1, 8)]
        for first in range(20):
            plan = Plan(SCHEME, [2] * 8, tests[first:first + 8])
            self.assert_same((plan.looks, plan.tests), ((2,) * 8, tuple(tests[first:first + 8])))

    def test_no_list_of_looks(self):
        for looks in ([], (), tuple(LOOKS), None, True, 0, "", "01", {}, {0: 1}):
            for tests in (TESTS, [], None, [None]):
                self.assert_raises(NoPlan, ["looks", None], Plan, SCHEME, looks, tests)
        for thing in anything():
            if not isinstance(thing, list) or thing == []:
                self.assert_raises(NoPlan, ["looks", None], Plan, SCHEME, thing, [])

    def test_the_first_look_that_is_wrong(self):
        for wrong in NO_LOOKS + [thing for thing in anything() if exact_look(thing) is None]:
            for at in range(8):
                looks = list(LOOKS)
                looks[at] = wrong
                for tests in (TESTS, None, [None]):
                    self.assert_raises(NoPlan, ["looks", at], Plan, SCHEME, looks, tests)
                self.assert_raises(NoPlan, ["looks", at], Plan, SCHEME, looks[:at + 1], [])
                self.assert_raises(NoPlan, ["looks", at], Plan, SCHEME, looks[:at + 1] + [wrong], [])

    def test_a_look_beyond_the_bound(self):
        self.assert_raises(NoPlan, ["looks", 8], Plan, SCHEME, LOOKS + [0], [])
        self.assert_raises(NoPlan, ["looks", 8], Plan, SCHEME, LOOKS + [0] * 5, TESTS)
        self.assert_raises(NoPlan, ["looks", 8], Plan, SCHEME, LOOKS + [None], [])
        self.assert_raises(NoPlan, ["looks", 7], Plan, SCHEME, LOOKS[:7] + [7, 0], [])

    def test_no_list_of_tests(self):
        for thing in [(), tuple(TESTS), {0: 6}] + [thing for thing in anything() if not isinstance(thing, list)]:
            self.assert_raises(NoPlan, ["tests", None], Plan, SCHEME, LOOKS, thing)
        self.assert_same(Plan(SCHEME, LOOKS, []).tests, ())

    def test_the_first_test_that_is_wrong(self):
        for wrong in NO_TESTS + anything():
            for at in range(3):
                tests = list(TESTS)
                tests[at] = wrong
                self.assert_raises(NoPlan, ["tests", at], Plan, SCHEME, LOOKS, tests)
                self.assert_raises(NoPlan, ["tests", at], Plan, SCHEME, LOOKS, tests[:at + 1])
                self.assert_raises(NoPlan, ["tests", at], Plan, SCHEME, LOOKS, tests[:at + 1] + [wrong])
            self.assert_raises(NoPlan, ["tests", 3], Plan, SCHEME, LOOKS, TESTS + [wrong])

    def test_each_pair_of_looks(self):
        places = [CELLS[cell] for cell in LOOKS]
        for one in range(-1, 9):
            for other in range(-1, 9):
                if 0 <= one < other < 8 and places[one] == places[other]:
                    self.assert_same(Plan(SCHEME, LOOKS, [(one, other)]).tests, ((one, other),))
                else:
                    self.assert_raises(NoPlan, ["tests", 0], Plan, SCHEME, LOOKS, [(one, other)])

    def test_a_place_of_the_same_number_in_another_number(self):
        scheme = Scheme([("n", 1, "strict"), ("m", 1, "strict")], [("n", 0), ("m", 0), ("n", 0)])
        self.assert_raises(NoPlan, ["tests", 0], Plan, scheme, [0, 1, 2], [(0, 1)])
        self.assert_same(Plan(scheme, [0, 1, 2], [(0, 2)]).tests, ((0, 2),))

    def test_a_pair_twice_or_turned_round(self):
        self.assert_raises(NoPlan, ["tests", 1], Plan, SCHEME, LOOKS, [(2, 4), (2, 4)])
        self.assert_raises(NoPlan, ["tests", 3], Plan, SCHEME, LOOKS, TESTS + [(1, 7)])
        self.assert_raises(NoPlan, ["tests", 1], Plan, SCHEME, LOOKS, [(2, 4), (4, 2)])

    def test_a_test_beyond_the_bound(self):
        tests = [(one, other) for one in range(8) for other in range(one + 1, 8)]
        self.assert_raises(NoPlan, ["tests", 8], Plan, SCHEME, [2] * 8, tests[:9])
        self.assert_raises(NoPlan, ["tests", 8], Plan, SCHEME, [2] * 8, tests)
        self.assert_raises(NoPlan, ["tests", 8], Plan, SCHEME, [2] * 8, tests[:8] + [None])
        self.assert_raises(NoPlan, ["tests", 7], Plan, SCHEME, [2] * 8, tests[:7] + tests[:2])

    def test_looks_come_ahead_of_tests(self):
        self.assert_raises(NoPlan, ["looks", 2], Plan, SCHEME, [0, 0, None], [None])
        self.assert_raises(NoPlan, ["looks", None], Plan, SCHEME, None, None)
        self.assert_raises(NoPlan, ["tests", 0], Plan, SCHEME, LOOKS, [None])

    def test_what_was_passed_stays_and_may_be_changed_afterwards(self):
        looks, tests = list(LOOKS), list(TESTS)
        plan = Plan(SCHEME, looks, tests)
        self.assert_same((looks, tests), (LOOKS, TESTS))
        looks[0] = 2
        looks.pop()
        tests.append((0, 6))
        tests[0] = (1, 7)
        self.assert_same((plan.looks, plan.tests), (tuple(LOOKS), tuple(TESTS)))
        self.assertEqual(plan, Plan(SCHEME, LOOKS, TESTS))


def exact_look(thing):
    """The number of a cell, or None for anything else."""
    return thing if repr(thing) in [repr(cell) for cell in range(len(CELLS))] else None


class TestAsking(Case):

    def setUp(self):
        self.plan = Plan(SCHEME, LOOKS, TESTS)

    def test_positions_and_places(self):
        for look, cell in enumerate(LOOKS):
            self.assert_same(self.plan.position(look), cell)
            self.assert_same(self.plan.place_at(look), CELLS[cell])

    def test_no_look(self):
        for thing in [8, 9, -1, -8, 10 ** 59, "0"] + anything():
            if repr(thing) in [repr(look) for look in range(8)]:
                self.assert_same(self.plan.position(thing), LOOKS[thing])
                continue
            for ask in (self.plan.position, self.plan.place_at):
                with self.assertRaises(NoLook) as caught:
                    ask(thing)
                self.assertIs(caught.exception.__class__, NoLook)

    def test_length(self):
        self.assert_same(len(self.plan), 8)
        for many in range(1, 9):
            self.assert_same(len(Plan(SCHEME, LOOKS[:many], [])), many)


class TestEqual(Case):

    def test_equal_parts(self):
        plan = Plan(SCHEME, LOOKS, TESTS)
        other = Plan(Scheme(list(NUMBERS), list(CELLS)), list(LOOKS), list(TESTS))
        self.assertIs(plan == other, True)
        self.assertIs(plan != other, False)

    def test_unlike_parts(self):
        plan = Plan(SCHEME, LOOKS, TESTS)
        weak = Scheme([("n", 2, "weak")] + NUMBERS[1:], CELLS)
        others = [
            Plan(weak, LOOKS, TESTS), Plan(Scheme(NUMBERS, CELLS + [("d", 0)]), LOOKS, TESTS),
            Plan(SCHEME.renamed({"n": "m", "mark": "mark", "d": "d"}), LOOKS, TESTS),
            Plan(SCHEME, LOOKS[:7] + [0], [(2, 4)]), Plan(SCHEME, LOOKS, [(2, 4)]),
            Plan(SCHEME, LOOKS, []), Plan(SCHEME, LOOKS, TESTS[::-1]), Plan(SCHEME, [1] + LOOKS[1:], TESTS),
        ]
        for other in others:
            self.assertIs(plan == other, False)
            self.assertIs(other == plan, False)
            self.assertIs(plan != other, True)

    def test_nothing_else_is_equal(self):
        plan = Plan(SCHEME, LOOKS, TESTS)
        for thing in anything() + [SCHEME, plan.looks, (SCHEME, plan.looks, plan.tests), Order(LOOKS), Table(TESTS)]:
            self.assertIs(plan == thing, False)
            self.assertIs(thing == plan, False)


if __name__ == "__main__":
    unittest.main()
