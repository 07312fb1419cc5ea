"""Orders: gaps [40], other writing and reading orders [41], right ones and mending [42]."""

import itertools
import unittest

from risingread.errors import NoOrder, NoPromise, TooMany
from risingread.judge import judge
from risingread.orders import (alike, gaps, is_free, mend, moved, reread, rewritten, right_readings, right_writings,
                               sure)
from risingread.patterns import patterns
from risingread.plans import Plan
from risingread.schemes import Scheme
from tests.brute import all_seen, middle_plans, small_plans
from tests.helper import Case, anything, plan_of, promises_of

PLAIN = plan_of(2, "strict", [0, 1], [0, 1])
R = ("n", (0, 1))
TESTED = Plan(Scheme([("n", 2, "strict"), ("m", 1, "free")], [("m", 0), ("n", 1), ("n", 0), ("m", 0)]),
              [3, 1, 2, 0], [(0, 3)])
NO_ORDERS_OF_TWO = [(0,), (0, 1, 2), (0, 0), (1, 1), (0, 2), (1, 2), (-1, 0), (0, True), (False, 1), [0, 1], "01", (),
                    (0, None), ("0", "1"), ((0,), (1,)), (0, [1]), {0: 0, 1: 1}, (0, 1, 1), (0, 10 ** 59), None]


def pairs_of(plan):
    """All pairs of looks, one ahead of the other."""
    return list(itertools.combinations(range(len(plan.looks)), 2))


def turned_back(order):
    """The order that leads back."""
    return tuple(order.index(number) for number in range(len(order)))


class TestGaps(Case):

    def test_cells_that_are_written_ahead(self):
        for plan in small_plans() + middle_plans() + [TESTED]:
            wanted = [pair for pair in pairs_of(plan) if plan.looks[pair[0]] < plan.looks[pair[1]]]
            self.assert_same(gaps(plan), wanted)
            self.assert_same(sure(plan), [pair for pair in pairs_of(plan) if pair not in wanted])

    def test_beside_the_patterns(self):
        for plan in small_plans() + middle_plans() + [TESTED]:
            known = list(patterns(plan))
            for one, other in pairs_of(plan):
                is_older = any(pattern[other] < pattern[one] for pattern in known)
                self.assertIs((one, other) in gaps(plan), is_older)
                self.assertTrue(all(pattern[other] >= pattern[one] - 1 for pattern in known))

    def test_one_look_and_equal_cells(self):
        self.assert_same([gaps(plan_of(1, "weak", [0], [0])), sure(plan_of(1, "weak", [0], [0]))], [[], []])
        plan = plan_of(1, "free", [0, 0], [1, 1, 0])
        self.assert_same([gaps(plan), sure(plan)], [[], [(0, 1), (0, 2), (1, 2)]])

    def test_new_lists(self):
        self.assert_stays(gaps, TESTED)
        self.assert_stays(sure, TESTED)

    def test_alike(self):
        plans = small_plans()[:16] + middle_plans()[:5] + [TESTED]
        for one, other in itertools.product(plans, repeat=2):
            self.assertIs(alike(one, other), list(patterns(one)) == list(patterns(other)))

    def test_alike_whatever_is_tested_and_written(self):
        one = plan_of(2, "strict", [0, 1, 0], [2, 1, 0], [(0, 2)])
        other = Plan(Scheme([("a", 1, "free")], [("a", 0)] * 8), [7, 5, 2], [(0, 1)])
        self.assertIs(alike(one, other), True)
        self.assertIs(alike(other, one), True)
        self.assertIs(alike(one, plan_of(2, "strict", [0, 1, 0], [2, 1])), False)
        self.assertIs(alike(one, plan_of(2, "strict", [0, 1, 0], [2, 0, 1])), False)
        self.assertIs(alike(one, plan_of(2, "strict", [0, 1, 0], [1, 1, 1])), True)


class TestOtherOrders(Case):

    def test_rewritten(self):
        for plan in small_plans()[:13] + middle_plans()[:3] + [TESTED]:
            cells = plan.scheme.cells
            for order in itertools.permutations(range(len(cells))):
                other = rewritten(plan, order)
                self.assert_same(other.scheme.cells, tuple(cells[cell] for cell in order))
                self.assert_same(other.scheme.numbers, plan.scheme.numbers)
                self.assert_same([order[cell] for cell in other.looks], list(plan.looks))
                self.assert_same(other.tests, plan.tests)
                self.assertEqual(rewritten(other, turned_back(order)), plan)

    def test_reread(self):
        for plan in small_plans()[:13] + middle_plans()[:3] + [TESTED]:
            for order in itertools.permutations(range(len(plan.looks))):
                other = reread(plan, order)
                self.assertEqual(other.scheme, plan.scheme)
                self.assert_same(other.looks, tuple(plan.looks[look] for look in order))
                back = [tuple(sorted((order[one], order[two]))) for one, two in other.tests]
                self.assert_same(back, list(plan.tests))
                self.assertTrue(all(one < two for one, two in other.tests))
                self.assertEqual(reread(other, turned_back(order)), plan)

    def test_tests_stay_in_their_order(self):
        plan = plan_of(1, "strict", [0], [0, 0, 0], [(1, 2), (0, 1), (0, 2)])
        self.assert_same(reread(plan, (2, 0, 1)).tests, ((0, 2), (1, 2), (0, 1)))
        self.assert_same(reread(plan, (2, 1, 0)).tests, ((0, 1), (1, 2), (0, 2)))
        self.assert_same(reread(plan, (0, 1, 2)).tests, plan.tests)

    def test_moved(self):
        for plan in small_plans()[:13] + middle_plans()[:3] + [TESTED]:
            for order in itertools.permutations(range(len(plan.looks))):
                other = reread(plan, order)
                for promise in promises_of(plan):
                    told = moved(promise, order)
                    self.assertIs(other.is_promise(told), True, (promise, order, told))
                    self.assert_same(told[0], promise[0])
                    self.assert_same(moved(told, turned_back(order)), promise)
                    if promise[0] == "together":
                        self.assertEqual({order[look] for look in told[1]}, set(promise[1]))
                    else:
                        back = tuple((name, tuple(order[look] for look in looks)) for name, looks in told[1:])
                        self.assert_same(back, promise[1:])

    def test_moved_together_is_ascending(self):
        self.assert_same(moved(("together", (0, 1, 3)), (3, 2, 1, 0)), ("together", (0, 2, 3)))
        self.assert_same(moved(("stood", ("n", (0, 3))), (3, 1, 2, 0)), ("stood", ("n", (3, 0))))
        self.assert_same(moved(("order", R, ("n", (2, 1))), (2, 0, 1)), ("order", ("n", (1, 2)), ("n", (0, 2))))

    def test_moved_by_an_order_of_any_number_of_looks(self):
        order = tuple(range(11))[::-1]
        self.assert_same(moved(("below", ("n", (0, 10))), order), ("below", ("n", (10, 0))))
        self.assert_same(moved(("below", ("n", (0,))), (0,)), ("below", ("n", (0,))))
        for promise in [("below", ("n", (0, 2))), ("order", ("n", (2,)), ("n", (0,))), ("together", (0, 2)),
                        ("order", ("n", (0,)), ("n", (2,))), ("stood", ("n", (2, 0)))]:
            for order in [(0, 1), (1, 0), (), (0,)]:
                self.assert_raises(NoOrder, [], moved, promise, order)
            self.assertEqual(moved(promise, (0, 1, 2)), promise)

    def test_no_order(self):
        for order in NO_ORDERS_OF_TWO + anything():
            self.assert_raises(NoOrder, [], rewritten, PLAIN, order)
            self.assert_raises(NoOrder, [], reread, PLAIN, order)
        for order in [[0, 1], (0, 0), (0, 2), (True, 0), (-1, 0), "01", None, (0, None), {0: 0, 1: 1}, (0, [1])] + anything():
            self.assert_raises(NoOrder, [], moved, ("below", R), order)

    def test_nothing_is_changed(self):
        before = repr([TESTED.looks, TESTED.tests, TESTED.scheme.cells])
        self.assertEqual(rewritten(TESTED, (3, 1, 2, 0)), rewritten(TESTED, (3, 1, 2, 0)))
        self.assertEqual(reread(TESTED, (3, 1, 2, 0)), reread(TESTED, (3, 1, 2, 0)))
        self.assert_stays(moved, ("together", (0, 1)), (1, 0))
        self.assertEqual(repr([TESTED.looks, TESTED.tests, TESTED.scheme.cells]), before)


class TestFree(Case):

    def test_beside_the_patterns(self):
        plans = small_plans() + middle_plans() + [TESTED, plan_of(1, "strict", [0] * 4, [0, 2, 0]),
                                                  plan_of(1, "strict", [0] * 5, [4, 1, 0])]
        for plan in plans:
            many = len(plan.scheme.cells)
            for k in range(many - 1):
                order = list(range(many))
                order[k], order[k + 1] = k + 1, k
                other = rewritten(plan, tuple(order))
                # Both orders of the looks at the two cells tell, so each plan is asked with its looks turned, too.
                reverse = tuple(range(len(plan.looks)))[::-1]
                is_same = list(patterns(plan)) == list(patterns(other))
                self.assertIs(is_free(plan, k), k not in plan.looks or k + 1 not in plan.looks)
                self.assertIs(is_same, is_free(plan, k))
                self.assertIs(alike(reread(plan, reverse), reread(other, reverse)), is_free(plan, k))

    def test_what_is_no_pair_of_cells(self):
        self.assertIs(is_free(PLAIN, 0), False)
        for k in [1, 2, -1, True, False, None, "0", 10 ** 59, (0,), [0], {}, (0, 1)]:
            self.assert_raises(NoOrder, [], is_free, PLAIN, k)
        for k in anything():
            self.assert_raises(NoOrder, [], is_free, plan_of(1, "free", [0], [0]), k)


class TestRightOrders(Case):

    def test_right_writings_beside_the_judge(self):
        for plan in small_plans()[:39:2] + [TESTED]:
            for promise in promises_of(plan)[::2]:
                wanted = [order for order in itertools.permutations(range(len(plan.scheme.cells)))
                          if bool(judge(rewritten(plan, order), promise))]
                self.assert_same(right_writings(plan, promise), wanted)
                self.assert_mended(plan, promise, wanted)

    def assert_mended(self, plan, promise, orders):
        """Assert that mend tells the first of these orders with the fewest exchanges."""
        told = mend(plan, promise)
        if not orders:
            self.assertIsNone(told)
            return
        many = {order: sum(order[one] > order[other] for one, other in itertools.combinations(range(len(order)), 2))
                for order in orders}
        wanted = [order for order in orders if many[order] == min(many.values())][0]
        self.assert_same(told, (many[wanted], wanted))

    def test_right_readings_beside_the_judge(self):
        for plan in small_plans()[:39:2] + [TESTED]:
            for promise in promises_of(plan)[::2]:
                wanted = [order for order in itertools.permutations(range(len(plan.looks)))
                          if bool(judge(reread(plan, order), moved(promise, order)))]
                self.assert_same(right_readings(plan, promise), wanted)

    def test_five_cells_and_four_looks(self):
        plan = plan_of(3, "strict", [2, 1, 0, 1, 2], [2, 1, 4, 2])
        promise = ("below", ("n", (3, 1, 2)))
        orders = right_writings(plan, promise)
        self.assert_mended(plan, promise, orders)
        self.assertEqual(orders, sorted(orders))
        for order in orders[::5]:
            self.assertIs(bool(judge(rewritten(plan, order), promise)), True)
        self.assertEqual(len(right_readings(plan, ("together", (0, 3)))), 0)

    def test_several_orders_with_equally_few_exchanges(self):
        # The low digit must be written ahead of the high one; the mark may stand anywhere.
        numbers = [("n", 2, "strict"), ("m", 1, "free")]
        plan = Plan(Scheme(numbers, [("n", 0), ("m", 0), ("n", 1)]), [0, 2], [])
        self.assert_same(right_writings(plan, ("above", R)), [(1, 2, 0), (2, 0, 1), (2, 1, 0)])
        self.assert_same(mend(plan, ("above", R)), (2, (1, 2, 0)))
        plan = Plan(Scheme(numbers, [("m", 0), ("n", 0), ("m", 0), ("n", 1)]), [1, 3], [])
        self.assert_same(mend(plan, ("above", R)), (2, (0, 2, 3, 1)))
        self.assert_mended(plan, ("above", R), right_writings(plan, ("above", R)))

    def test_the_first_right_order_is_not_the_nearest_one(self):
        plan = plan_of(2, "weak", [0, 1, 0, 1], [0, 3, 1, 0], [(0, 3), (1, 2)])
        promise = ("stood", ("n", (0, 1)))
        self.assert_same(right_writings(plan, promise)[:3], [(2, 3, 0, 1), (3, 0, 1, 2), (3, 0, 2, 1)])
        self.assert_same(mend(plan, promise), (3, (3, 0, 1, 2)))
        self.assert_mended(plan, promise, right_writings(plan, promise))

    def test_a_plan_that_is_right_already(self):
        for plan in small_plans()[:13]:
            for promise in promises_of(plan):
                if bool(judge(plan, promise)):
                    self.assert_same(mend(plan, promise), (0, tuple(range(len(plan.scheme.cells)))))

    def test_the_documents_example(self):
        above = ("above", R)
        self.assert_same(right_writings(PLAIN, above), [(1, 0)])
        self.assert_same(right_readings(PLAIN, above), [])
        self.assert_same(mend(PLAIN, above), (1, (1, 0)))
        self.assert_same(right_readings(rewritten(PLAIN, (1, 0)), above), [(0, 1)])
        self.assertIsNone(mend(PLAIN, ("stood", R)))

    def test_too_many(self):
        six = plan_of(1, "strict", [0] * 6, [0, 1, 2, 3, 4])
        for promise in [("below", ("n", (0,))), None, ("below", 0)] + anything():
            # Too many cells are named first, then too many looks, then what is no promise.
            self.assert_raises(TooMany, [5], right_writings, six, promise)
            self.assert_raises(TooMany, [5], mend, six, promise)
            self.assert_raises(TooMany, [4], right_readings, six, promise)
            five = plan_of(1, "strict", [0] * 5, [0, 1, 2, 3, 4])
            for call in (right_writings, right_readings, mend):
                self.assert_raises(TooMany, [4], call, five, promise)

    def test_just_as_many_as_may_be(self):
        plan = plan_of(1, "strict", [0] * 5, [0, 1, 2, 3])
        self.assertEqual(len(right_writings(plan, ("stood", ("n", (0,))))), 120)
        self.assertEqual(len(right_readings(plan, ("stood", ("n", (0,))))), 24)
        six = plan_of(1, "strict", [0] * 8, [0, 7])
        self.assertEqual(len(right_readings(six, ("stood", ("n", (0,))))), 2)

    def test_no_promise(self):
        for thing in anything() + [("below", ("n", (1, 0))), ["below", R], ("order", R), ("together", [0, 1])]:
            for call in (right_writings, right_readings, mend):
                self.assert_raises(NoPromise, [thing], call, PLAIN, thing)

    def test_new_lists(self):
        self.assert_stays(right_writings, PLAIN, ("above", R))
        self.assert_stays(right_readings, rewritten(PLAIN, (1, 0)), ("above", R))
        self.assert_stays(mend, PLAIN, ("above", R))


class TestFacts(Case):

    def test_patterns_are_alike_exactly_if_the_gaps_are(self):
        for plan in small_plans()[:13]:
            for order in itertools.permutations(range(len(plan.scheme.cells))):
                other = rewritten(plan, order)
                is_same = list(patterns(plan)) == list(patterns(other))
                self.assertIs(is_same, gaps(plan) == gaps(other))
                self.assertIs(is_same, alike(plan, other))

    def test_at_a_gap_of_the_one_alone_the_writer_rests(self):
        # The looks ahead of the gap's second look see version 0, all others what stands.
        plan = plan_of(2, "strict", [0, 1], [0, 1])
        other = rewritten(plan, (1, 0))
        self.assertIn((1, 0), all_seen(plan, 2))
        self.assertNotIn((1, 0), all_seen(other, 3))


if __name__ == "__main__":
    unittest.main()
