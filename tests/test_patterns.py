"""The rule of ages [25] and patterns [26]."""

import itertools
import unittest

from risingread.errors import NotPattern, NotSeen, Unlike
from risingread.forced import Forced
from risingread.patterns import all_in, first_beyond, how_many, is_pattern, pattern_of, patterns
from risingread.plans import Plan
from risingread.schemes import Scheme
from risingread.weavings import Weaving, weaving_of, weavings_of
from tests.helper import Case, anything, plan_of, written

SCHEME = Scheme([("n", 2, "strict"), ("m", 1, "free")], [("n", 1), ("m", 0), ("n", 0)])
FORWARD = Plan(SCHEME, [0, 1, 2], [])
BACKWARD = Plan(SCHEME, [2, 1, 0], [])
PLANS = [FORWARD, BACKWARD, Plan(SCHEME, [1], []), Plan(SCHEME, [0, 0, 0], []), Plan(SCHEME, [0, 2, 0], []),
         Plan(SCHEME, [2, 0, 1, 2], [(0, 3)]), Plan(SCHEME, [0, 1, 0, 1], []), Plan(SCHEME, [1, 2, 1, 0], [(0, 2)]),
         Plan(SCHEME, [2, 1, 0, 2], []), plan_of(1, "free", [0], [0]), plan_of(1, "weak", [0, 0], [0, 1, 0, 1]),
         plan_of(2, "strict", [0, 1], [0, 1, 0, 1, 0])]


def found_patterns(plan):
    """All patterns of a plan in their order, found by writing and looking at all moments."""
    cells, many = len(plan.scheme.cells), len(plan.looks)
    held = [written(plan, writes) for writes in range(cells * many + 1)]
    found = set()
    for moments in itertools.combinations_with_replacement(range(len(held)), many):
        seen = [held[moment][cell] for moment, cell in zip(moments, plan.looks)]
        found.add(tuple(sorted(set(seen)).index(version) for version in seen))
    return sorted(found, key=lambda pattern: (max(pattern), pattern))


class TestPatterns(Case):

    def test_all_patterns_in_their_order(self):
        for plan in PLANS:
            wanted = found_patterns(plan)
            self.assert_same(list(patterns(plan)), wanted)
            self.assert_same(list(patterns(plan)), wanted)
            self.assert_same(how_many(plan), [sum(max(pattern) == top for pattern in wanted)
                                              for top in range(max(wanted[-1]) + 1)])

    def test_what_is_a_pattern(self):
        for plan in PLANS:
            wanted = found_patterns(plan)
            for levels in itertools.product(range(-1, len(plan) + 1), repeat=len(plan)):
                self.assertIs(is_pattern(plan, levels), levels in wanted, levels)

    def test_eight_looks_at_one_place(self):
        one = plan_of(1, "strict", [0], [0] * 8)
        rising = [levels for levels in itertools.product(range(8), repeat=8) if is_rising(levels)]
        wanted = sorted(rising, key=lambda pattern: (max(pattern), pattern))
        self.assert_same(list(patterns(one)), wanted)
        self.assert_same(how_many(one), [1, 7, 21, 35, 35, 21, 7, 1])
        backward = plan_of(1, "strict", [0] * 8, range(7, -1, -1))
        self.assert_same(list(patterns(backward)), wanted)
        for pattern in wanted:
            self.assertIs(is_pattern(one, pattern), True)

    def test_eight_looks_forward(self):
        plan = plan_of(1, "strict", [0] * 8, range(8))
        told = list(patterns(plan))
        self.assert_same(told, sorted(set(told), key=lambda pattern: (max(pattern), pattern)))
        self.assertEqual(len(told), count_forward(8))
        for pattern in told:
            self.assertIs(is_pattern(plan, pattern), True)

    def test_what_is_none(self):
        plan = FORWARD
        self.assertIs(is_pattern(plan, (0, 1, 1)), True)
        wrong = [[0, 1, 1], (0, 1), (0, 1, 1, 1), (), (0, 2, 2), (1, 1, 1), (1, 2, 2), (0, 0, 2), (0, True, 1),
                 (False, 1, 1), (0, "1", 1), (0, None, 1), (0, (1,), 1), (0, [1], 1), (0, {}, 1), (-1, 0, 1),
                 (0, 1, 10 ** 59), {0: 0, 1: 1, 2: 1}, "011", ((0, 1, 1),), (3, 2, 0), (2, 0, 1)]
        for thing in wrong + anything():
            self.assertIs(is_pattern(plan, thing), False, thing)
        single = Plan(SCHEME, [0], [])
        for thing in anything() + [(False,), (1,)]:
            self.assertIs(is_pattern(single, thing), False, thing)
        self.assertIs(is_pattern(single, (0,)), True)
        self.assertIs(is_pattern(plan_of(1, "free", [0], [0] * 8), (0,) * 9), False)

    def test_how_many_is_a_new_list(self):
        for plan in PLANS:
            self.assert_stays(how_many, plan)
            self.assert_stays(lambda plan: list(patterns(plan)), plan)
        told = how_many(FORWARD)
        told.clear()
        self.assert_same(how_many(FORWARD), [1, 6, 3])


class TestPatternOf(Case):

    def test_versions_that_can_be_seen(self):
        for plan in PLANS:
            cells = len(plan.scheme.cells)
            held = [written(plan, writes) for writes in range(4 * cells)]
            seen = {tuple(held[moment][cell] for moment, cell in zip(moments, plan.looks))
                    for moments in itertools.combinations_with_replacement(range(len(held)), len(plan.looks))}
            for versions in itertools.product(range(3), repeat=len(plan)):
                if versions in seen:
                    levels = tuple(sorted(set(versions)).index(version) for version in versions)
                    self.assert_same(pattern_of(plan, versions), levels)
                    self.assertIs(is_pattern(plan, levels), True)
                else:
                    one, other = first_breach(plan, versions)
                    self.assert_raises(NotSeen, [one, other], pattern_of, plan, versions)

    def test_unseen_versions_are_left_out(self):
        self.assert_same(pattern_of(FORWARD, (5, 7, 10 ** 59)), (0, 1, 2))
        self.assert_same(pattern_of(FORWARD, (9, 8, 11)), (1, 0, 2))
        self.assert_same(pattern_of(FORWARD, (10 ** 59, 10 ** 59 - 1, 10 ** 59)), (1, 0, 1))
        self.assert_same(pattern_of(FORWARD, (3, 3, 3)), (0, 0, 0))

    def test_the_rule_broken_at_each_pair(self):
        for looks in (range(4), range(3, -1, -1), [0] * 4, [0, 2, 1, 3]):
            plan = plan_of(2, "strict", [0, 1, 0, 1], looks)
            for one, other in itertools.combinations(range(4), 2):
                # One look ahead has seen a version that is too late for just one look behind it.
                for fall in (1, 2, 9):
                    seen = [10] * 4
                    seen[other] = 10 - fall
                    wanted = first_breach(plan, seen)
                    if wanted is None:
                        self.assert_same(len(pattern_of(plan, tuple(seen))), 4)
                    else:
                        self.assert_raises(NotSeen, wanted, pattern_of, plan, tuple(seen))
                    seen = [10 + fall if look == one else 10 for look in range(4)]
                    wanted = first_breach(plan, seen)
                    if wanted is not None:
                        self.assert_raises(NotSeen, wanted, pattern_of, plan, tuple(seen))
        plan = plan_of(2, "strict", [0, 1, 0, 1], range(4))
        self.assert_raises(NotSeen, [0, 3], pattern_of, plan, (5, 4, 4, 3))
        self.assert_raises(NotSeen, [1, 3], pattern_of, plan, (4, 5, 4, 3))
        self.assert_raises(NotSeen, [2, 3], pattern_of, plan, (4, 4, 5, 3))
        self.assert_raises(NotSeen, [0, 1], pattern_of, plan, (5, 3, 1, 0))
        self.assert_raises(NotSeen, [1, 2], pattern_of, plan, (1, 5, 3, 0))

    def test_the_same_again(self):
        self.assert_stays(pattern_of, FORWARD, (5, 4, 9))


class TestAllIn(Case):

    def test_both_ways_round(self):
        for plan in PLANS:
            for other in PLANS:
                if len(plan) != len(other):
                    continue
                mine, others = found_patterns(plan), found_patterns(other)
                beyond = [pattern for pattern in mine if pattern not in others]
                self.assert_same(first_beyond(plan, other), beyond[0] if beyond else None)
                self.assertIs(all_in(plan, other), not beyond)

    def test_forward_and_backward(self):
        self.assert_same(first_beyond(FORWARD, BACKWARD), (0, 1, 0))
        self.assertIs(all_in(FORWARD, BACKWARD), False)
        self.assertIsNone(first_beyond(BACKWARD, FORWARD))
        self.assertIs(all_in(BACKWARD, FORWARD), True)
        self.assertIs(all_in(FORWARD, FORWARD), True)

    def test_unlike(self):
        for plan in PLANS:
            for other in PLANS:
                if len(plan) != len(other):
                    for ask in (all_in, first_beyond):
                        with self.assertRaises(Unlike) as caught:
                            ask(plan, other)
                        self.assertIs(caught.exception.__class__, Unlike)

    def test_other_schemes(self):
        weak = plan_of(1, "weak", [0] * 3, [2, 1, 0])
        self.assertIs(all_in(BACKWARD, weak), True)
        self.assertIs(all_in(weak, BACKWARD), True)
        self.assert_same(first_beyond(FORWARD, weak), (0, 1, 0))


class TestNotPattern(Case):

    def test_of_anything(self):
        things = anything() + [[0, 0, 0], (0, 0), (0, 0, 0, 0), (0, 0, True), (0, 2, 1), (1, 1, 1), (2, 1, 0),
                               (1, 0, 0, 0), (0, 0, [0]), (2, 0, 1)]
        calls = [Weaving.earliest, Weaving.latest, weaving_of, lambda plan, pattern: next(weavings_of(plan, pattern)),
                 lambda plan, pattern: list(weavings_of(plan, pattern)),
                 lambda plan, pattern: Forced(plan, pattern, "n")]
        for thing in things:
            for call in calls:
                with self.assertRaises(NotPattern) as caught:
                    call(BACKWARD, thing)
                self.assertIs(caught.exception.__class__, NotPattern)


def is_rising(levels):
    """Whether the levels begin with 0 and rise by at most 1."""
    return levels[0] == 0 and all(other - one in (0, 1) for one, other in zip(levels, levels[1:]))


def count_forward(many):
    """The number of patterns if each look is at a cell that is written behind those looked at ahead."""
    count = 0
    stack = [(0, 0, 0)]
    while stack:
        # How many looks, the greatest level so far, and the levels that occur as bits.
        length, top, bits = stack.pop()
        if length == many:
            count += bits & (bits + 1) == 0
            continue
        for level in range(max(0, top - 1), many):
            stack.append((length + 1, max(top, level), bits | 1 << level))
    return count


def first_breach(plan, seen):
    """The first pair of looks, ascending, that cannot have seen these versions, or None."""
    for one, other in itertools.combinations(range(len(seen)), 2):
        is_ahead = plan.looks[one] < plan.looks[other]
        if not (seen[other] >= seen[one] or (is_ahead and seen[other] == seen[one] - 1)):
            return one, other
    return None


if __name__ == "__main__":
    unittest.main()
