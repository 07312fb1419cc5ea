"""Moments and weavings [24], the earliest one and all of them [27]."""

import itertools
import unittest

from risingread.errors import NotEvents, NotMoments
from risingread.patterns import pattern_of, patterns
from risingread.plans import Plan
from risingread.runs import play
from risingread.schemes import Scheme
from risingread.weavings import Weaving, weaving_of, weavings_of
from tests.helper import Case, anything, plan_of, written
from tests.test_patterns import PLANS

PLAN = plan_of(2, "strict", [0, 1, 0], [2, 0, 1])


def all_moments(plan, most):
    """All moments of a plan's looks that do not fall, up to the greatest one, ascending."""
    return itertools.combinations_with_replacement(range(most + 1), len(plan))


def seen_at(plan, moments):
    """The versions that the looks see, found by writing the cells."""
    return tuple(written(plan, moment)[cell] for moment, cell in zip(moments, plan.looks))


class TestMaking(Case):

    def test_moments_ages_and_events(self):
        for plan in PLANS[:6]:
            for moments in list(all_moments(plan, 7))[::3]:
                weaving = Weaving(plan, *moments)
                self.assertEqual(weaving.plan, plan)
                self.assert_same(weaving.moments, moments)
                self.assert_same(weaving.ages, seen_at(plan, moments))
                events = weaving.events
                self.assertIs(events.__class__, tuple)
                self.assertEqual(len(weaving), len(events))
                looks = [at for at, event in enumerate(events) if event == "look"]
                self.assertEqual([events[:at].count("write") for at in looks], list(moments))
                self.assertEqual((len(looks), looks[-1]), (len(plan), len(events) - 1))
                self.assertEqual(set(events) - {"write"}, {"look"})
                for look in range(len(plan)):
                    self.assert_same(weaving[look], moments[look])

    def test_great_moments(self):
        weaving = Weaving(PLAN, 9999, 10000, 10000)
        self.assert_same(weaving.ages, (3333, 3334, 3333))
        self.assertEqual(len(weaving), 10003)
        self.assert_same((10000 + Weaving(PLAN, 0, 0, 1)).ages, (10000, 10000, 10000))

    def test_the_first_wrong_item(self):
        for at in range(3):
            for wrong in [-1, True, False, None, "1", "", [1], (1,), {}, -10 ** 59, b"1"]:
                moments = [2, 3, 4]
                moments[at] = wrong
                self.assert_raises(NotMoments, [at], Weaving, PLAN, *moments)
                self.assert_raises(NotMoments, [at], Weaving, PLAN, *moments[:at + 1])
                self.assert_raises(NotMoments, [at], Weaving, PLAN, *(moments[:at + 1] + [None] * 4))
        for thing in anything():
            if repr(thing) not in [repr(k) for k in (0, 1, 7, 100, 10 ** 40)]:
                self.assert_raises(NotMoments, [1], Weaving, PLAN, 0, thing, 1)
                self.assert_raises(NotMoments, [3], Weaving, PLAN, 0, 0, 1, thing)

    def test_moments_that_fall(self):
        self.assert_raises(NotMoments, [1], Weaving, PLAN, 1, 0, 5)
        self.assert_raises(NotMoments, [2], Weaving, PLAN, 1, 5, 4)
        self.assert_raises(NotMoments, [1], Weaving, PLAN, 3, 2, 1)
        self.assert_raises(NotMoments, [2], Weaving, PLAN, 0, 3, 2, None)
        self.assert_raises(NotMoments, [1], Weaving, PLAN, 3, 2)
        self.assert_same(Weaving(PLAN, 3, 3, 3).moments, (3, 3, 3))

    def test_too_few_and_too_many(self):
        self.assert_raises(NotMoments, [3], Weaving, PLAN)
        self.assert_raises(NotMoments, [3], Weaving, PLAN, 0)
        self.assert_raises(NotMoments, [3], Weaving, PLAN, 0, 0)
        self.assert_raises(NotMoments, [3], Weaving, PLAN, 0, 0, 0, 0)
        self.assert_raises(NotMoments, [3], Weaving, PLAN, 0, 0, 0, 0, 0)
        self.assert_raises(NotMoments, [3], Weaving, PLAN, 0, 0, 0, None)
        self.assert_raises(NotMoments, [0], Weaving, PLAN, (0, 0, 0))

    def test_no_look(self):
        weaving = Weaving(PLAN, 1, 2, 3)
        for thing in [3, 4, -1, -3, 10 ** 59, "0"] + anything():
            if repr(thing) in ("0", "1", "2"):
                self.assert_same(weaving[thing], thing + 1)
            else:
                self.assert_raises(NotMoments, [thing], weaving.__getitem__, thing)

    def test_what_is_played_of_it(self):
        versions = [{"n": (0, k)} for k in range(6)]
        for moments in list(all_moments(PLAN, 9))[::5]:
            weaving = Weaving(PLAN, *moments)
            self.assert_same(play(PLAN, (versions, weaving.events)).seen, weaving.ages)


class TestEqual(Case):

    def test_equal(self):
        weaving = Weaving(PLAN, 1, 2, 3)
        other = Weaving(plan_of(2, "strict", [0, 1, 0], [2, 0, 1]), 1, 2, 3)
        self.assertIs(weaving == other, True)
        self.assertIs(weaving != other, False)

    def test_unlike(self):
        weaving = Weaving(PLAN, 1, 2, 3)
        for other in [Weaving(PLAN, 1, 2, 4), Weaving(PLAN, 0, 2, 3),
                      Weaving(plan_of(2, "weak", [0, 1, 0], [2, 0, 1]), 1, 2, 3),
                      Weaving(plan_of(2, "strict", [0, 1, 0], [2, 0, 0]), 1, 2, 3),
                      Weaving(plan_of(2, "strict", [0, 1, 0], [2, 0, 2], [(0, 2)]), 1, 2, 3)]:
            self.assertIs(weaving == other, False)
            self.assertIs(weaving != other, True)

    def test_nothing_else_is_equal(self):
        weaving = Weaving(PLAN, 1, 2, 3)
        for thing in anything() + [(1, 2, 3), [1, 2, 3], weaving.events, PLAN, (PLAN, (1, 2, 3))]:
            self.assertIs(weaving == thing, False)
            self.assertIs(thing == weaving, False)


class TestLater(Case):

    def test_whole_versions_more_from_both_sides(self):
        for plan in PLANS[:6]:
            for moments in list(all_moments(plan, 5))[::3]:
                weaving = Weaving(plan, *moments)
                for more in (0, 1, 2, 7):
                    for told in (weaving + more, more + weaving):
                        self.assertIs(told.__class__, Weaving)
                        cells = len(plan.scheme)
                        self.assertEqual(told, Weaving(plan, *[moment + more * cells for moment in moments]))
                        self.assert_same(told.ages, tuple(age + more for age in weaving.ages))
                        self.assert_same(told.events, ("write",) * (more * cells) + weaving.events)
                self.assert_same(weaving.moments, moments)


class TestOf(Case):

    def test_all_events(self):
        for plan in PLANS[:6]:
            for moments in list(all_moments(plan, 6))[::3]:
                weaving = Weaving(plan, *moments)
                self.assertEqual(Weaving.of(plan, weaving.events), weaving)
                self.assertEqual(Weaving.of(plan, list(weaving.events)), weaving)
                self.assertIs(Weaving.of(plan, weaving.events).__class__, Weaving)

    def test_a_word_changed(self):
        events = list(Weaving(PLAN, 1, 2, 4).events)
        for at in range(len(events)):
            for wrong in anything() + ["Look", "write ", ["look"], ("write",), {"look": 1}]:
                told = list(events)
                told[at] = wrong
                self.assert_raises(NotEvents, [at], Weaving.of, PLAN, told)
                self.assert_raises(NotEvents, [at], Weaving.of, PLAN, tuple(told[:at + 1]) + (wrong,))
        for wrong in anything():
            self.assert_raises(NotEvents, [len(events)], Weaving.of, PLAN, events + [wrong])
            self.assert_raises(NotEvents, [len(events) + 1], Weaving.of, PLAN, events + ["write", wrong])

    def test_a_look_more(self):
        events = Weaving(PLAN, 1, 2, 4).events
        for at in range(len(events) + 1):
            told = events[:at] + ("look",) + events[at:]
            fourth = [number for number, event in enumerate(told) if event == "look"][3]
            self.assert_raises(NotEvents, [fourth], Weaving.of, PLAN, told)
        self.assert_raises(NotEvents, [len(events) + 1], Weaving.of, PLAN, events + ("write", "look"))

    def test_a_look_less(self):
        events = Weaving(PLAN, 1, 2, 4).events
        for at in [number for number, event in enumerate(events) if event == "look"]:
            told = events[:at] + events[at + 1:]
            self.assert_raises(NotEvents, [len(told)], Weaving.of, PLAN, told)
        for told in [(), [], ["write"], ["look"], ["look", "look", "write"]]:
            self.assert_raises(NotEvents, [len(told)], Weaving.of, PLAN, told)

    def test_a_write_behind_the_last_look(self):
        events = Weaving(PLAN, 1, 2, 4).events
        self.assert_raises(NotEvents, [len(events) + 1], Weaving.of, PLAN, events + ("write",))
        self.assert_raises(NotEvents, [len(events) + 3], Weaving.of, PLAN, list(events) + ["write"] * 3)

    def test_no_tuple_or_list(self):
        for thing in [thing for thing in anything() if not isinstance(thing, (tuple, list))] + ["look", {"look": 1}]:
            self.assert_raises(NotEvents, [0], Weaving.of, PLAN, thing)

    def test_what_was_passed_stays(self):
        events = list(Weaving(PLAN, 1, 2, 4).events)
        before = list(events)
        weaving = Weaving.of(PLAN, events)
        self.assert_same(events, before)
        events.clear()
        self.assert_same(weaving.events, tuple(before))


class TestEarliest(Case):

    def test_beside_a_search(self):
        for plan in PLANS:
            known = {}
            for moments in all_moments(plan, len(plan) * len(plan.scheme) + 1):
                known.setdefault(seen_at(plan, moments), []).append(moments)
            for pattern in patterns(plan):
                found = known[pattern]
                earliest, latest = Weaving.earliest(plan, pattern), Weaving.latest(plan, pattern)
                self.assertIs(earliest.__class__, Weaving)
                self.assertIs(latest.__class__, Weaving)
                self.assert_same(earliest.moments, tuple(min(column) for column in zip(*found)))
                self.assert_same(latest.moments, tuple(max(column) for column in zip(*found)))
                self.assertIn(earliest.moments, found)
                self.assertIn(latest.moments, found)
                self.assert_same(weaving_of(plan, pattern), earliest.events)
                self.assert_same([weaving.moments for weaving in weavings_of(plan, pattern)], found)

    def test_all_weavings_are_what_they_should_be(self):
        plan = Plan(Scheme([("n", 2, "strict")], [("n", 0), ("n", 1)]), [0, 1, 0, 1], [])
        for pattern in patterns(plan):
            for weaving in weavings_of(plan, pattern):
                self.assertIs(weaving.__class__, Weaving)
                self.assertEqual(weaving.plan, plan)
                self.assert_same(weaving.ages, pattern)
                self.assert_same(pattern_of(plan, weaving.ages), pattern)

    def test_one_by_one(self):
        # There are thousands of weavings, and the first ones are told at once.
        plan = plan_of(1, "strict", [0] * 8, [7] * 8)
        first = list(itertools.islice(weavings_of(plan, (0,) * 8), 4))
        self.assert_same([weaving.moments for weaving in first],
                         [(0,) * 8, (0,) * 7 + (1,), (0,) * 7 + (2,), (0,) * 7 + (3,)])
        self.assertEqual(len(list(weavings_of(plan, (0,) * 8))), 6435)

    def test_the_same_again(self):
        for pattern in patterns(PLAN):
            self.assert_stays(weaving_of, PLAN, pattern)
            self.assertEqual(Weaving.earliest(PLAN, pattern), Weaving.earliest(PLAN, pattern))
            self.assertEqual(list(weavings_of(PLAN, pattern)), list(weavings_of(PLAN, pattern)))


if __name__ == "__main__":
    unittest.main()
