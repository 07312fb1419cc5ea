"""How a pattern keeps a promise [35], and the run by which it breaks one [37]."""

import unittest

from risingread.forced import Forced
from risingread.judge import broken_by, judge, why
from risingread.patterns import patterns
from risingread.plans import Plan
from risingread.runs import play
from risingread.schemes import Scheme
from risingread.weavings import weaving_of
from tests import whys
from tests.brute import middle_plans, small_plans
from tests.helper import Case, plan_of, promises_of
from tests.test_forced import closed, is_right, ordered, passes

LAMPORT = plan_of(2, "strict", [1, 0], [1, 0])
R = ("n", (0, 1))
MIDDLE = plan_of(2, "strict", [0, 1, 1, 0], [3, 2, 1, 0], [(0, 3), (1, 2)])
M = ("n", (3, 2))


def some_plans():
    """Plans of all kinds, among them some with three places and with three numbers."""
    more = [plan for _, plan in (Plan.layout("n", 3, single) for single in range(3))]
    more.append(plan_of(3, "weak", [2, 1, 0, 1], [3, 0, 2, 1], [(0, 3)]))
    more.append(plan_of(2, "strict", [0, 1], [0, 1, 1, 0], [(1, 2)]))
    numbers = [("a", 2, "strict"), ("b", 1, "weak"), ("c", 1, "free")]
    cells = [("b", 0), ("a", 1), ("c", 0), ("a", 0), ("b", 0)]
    more.append(Plan(Scheme(numbers, cells), [4, 3, 2, 1, 0], [(0, 4)]))
    return small_plans() + middle_plans() + more


class TestWhys(Case):

    def test_each_why_shows_by_the_tests_own_rule(self):
        forms = set()
        for plan in some_plans():
            chosen = promises_of(plan)
            for promise in chosen[::len(chosen) // 10 + 1]:
                for pattern in patterns(plan):
                    reason = why(plan, pattern, promise)
                    self.assertIs(reason is None, broken_by(plan, pattern, promise) is not None)
                    if reason is not None:
                        self.assertTrue(whys.show_row(plan, promise, pattern, reason), (promise, pattern, reason))
                        forms.add((promise[0], reason[0]))
        sided = {(word, "sides") for word in ("below", "above", "order")}
        barred = {(word, "tests") for word in ("below", "above", "order", "between", "stood", "together")}
        self.assertEqual(forms, sided | barred | {("between", "both"), ("stood", "stood"), ("together", "one")})

    def test_a_why_is_made_of_tuples_alone(self):
        for plan in (MIDDLE, LAMPORT, plan_of(2, "strict", [0, 1], [0, 1, 1, 0], [(1, 2)])):
            for promise in promises_of(plan):
                for pattern in patterns(plan):
                    self.assert_tuples(why(plan, pattern, promise))

    def assert_tuples(self, thing):
        """Assert that there are no lists in it."""
        self.assertIn(thing.__class__, (tuple, str, int, None.__class__))
        if isinstance(thing, tuple):
            for item in thing:
                self.assert_tuples(item)

    def test_no_step_is_told_twice(self):
        for plan in some_plans():
            for promise in promises_of(plan)[::4]:
                for pattern in patterns(plan):
                    reason = why(plan, pattern, promise)
                    if reason is not None and reason[0] in ("tests", "stood"):
                        self.assertEqual(len(set(reason[-1])), len(reason[-1]))

    def test_walks(self):
        self.assert_same(why(LAMPORT, (0, 1), ("above", R)),
                         ("sides", (("walk", (("rise", 0, 0, 1),)), ("walk", ()))))
        self.assert_same(why(LAMPORT, (0, 0), ("below", R)), ("sides", (("walk", ()), ("walk", ()))))
        self.assertIsNone(why(LAMPORT, (0, 1), ("below", R)))

    def test_tests_of_any_strict_number(self):
        numbers = [("a", 1, "strict"), ("b", 1, "free")]
        plan = Plan(Scheme(numbers, [("a", 0), ("b", 0)]), [0, 1, 0], [(0, 2)])
        for promise in promises_of(plan):
            reason = why(plan, (0, 0, 1), promise)
            self.assert_same(reason[:3], ("tests", "a", 0))
            self.assertTrue(whys.show_tests(plan, (0, 0, 1), reason))
            self.assertIsNone(broken_by(plan, (0, 0, 1), promise))

    def test_tests_by_the_ties_of_higher_places(self):
        # Versions 0 and 2 are tied by the sides at place 0, and nothing but that lets the tests not come out.
        found = []
        for plan in some_plans():
            for promise in promises_of(plan):
                if promise[0] in ("below", "above", "order"):
                    for pattern in patterns(plan):
                        reason = why(plan, pattern, promise)
                        if reason is not None and reason[0] == "sides" and reason[1][-1][0] == "tests":
                            found.append(promise[0])
                            self.assertEqual([part[0] for part in reason[1][:-1]], ["walk"] * (len(reason[1]) - 1))
        self.assertEqual(set(found), {"below", "above", "order"})

    def test_stood(self):
        told = {(0, 0, 0, 0): 0, (0, 0, 0, 1): 0, (0, 1, 1, 1): 1, (0, 1, 1, 2): 1}
        for pattern in patterns(MIDDLE):
            reason = why(MIDDLE, pattern, ("stood", M))
            self.assert_same(reason[:2], ("stood", told[pattern]) if pattern in told else ("tests", "n"))

    def test_both_and_one(self):
        for pattern in patterns(MIDDLE):
            reason = why(MIDDLE, pattern, ("between", M))
            if reason[0] == "both":
                self.assert_same(reason, ("both", why(MIDDLE, pattern, ("below", M)), why(MIDDLE, pattern, ("above", M))))
        self.assert_same(why(LAMPORT, (0, 0), ("together", (0, 1))), ("one",))
        self.assertIsNone(why(LAMPORT, (0, 1), ("together", (0, 1))))

    def test_the_same_again(self):
        for pattern in patterns(MIDDLE):
            self.assert_stays(why, MIDDLE, pattern, ("between", M))


class TestRuns(Case):

    def test_each_run_played(self):
        told = set()
        for plan in some_plans():
            chosen = promises_of(plan)
            for promise in chosen[::len(chosen) // 10 + 1]:
                for pattern in patterns(plan):
                    run = broken_by(plan, pattern, promise)
                    if run is not None:
                        self.assert_run(plan, pattern, promise, run)
                        told.add(promise[0])
        self.assertEqual(told, {"below", "above", "between", "stood", "order", "together"})

    def assert_run(self, plan, pattern, promise, run):
        """Assert that the run shows that the pattern breaks the promise."""
        versions, events = run
        self.assertEqual((run.__class__, versions.__class__, events.__class__), (tuple, tuple, tuple))
        self.assert_same(len(versions), max(pattern) + 1)
        self.assert_same(events, weaving_of(plan, pattern))
        for name, _, kind in plan.scheme.numbers:
            row = [version[name] for version in versions]
            self.assertTrue(is_right(kind, row))
            self.assertTrue(passes(plan, pattern, name, (), None, row))
            self.assert_same(tuple(row), self.row_of(plan, pattern, promise, name))
        played = play(plan, run)
        self.assert_same([played.seen, played.before, played.after], [pattern, 0, max(pattern)])
        self.assertIs(played.passes, True)
        self.assertIs(played.tells(promise), False)
        self.assertIs(played.breaks(promise), True)

    def row_of(self, plan, pattern, promise, name):
        """The freest row of the number, with the ties and the less wish of the least place at which it breaks."""
        halves = {"between": [("below",) + promise[1:], ("above",) + promise[1:]]}.get(promise[0], [promise])
        ties, less = (), None
        if promise[0] not in ("together", "stood") and promise[1][0] == name:
            wishes = [wish for wish in (self.wish_of(plan, pattern, half) for half in halves) if wish is not None]
            ties, less = wishes[0]
        facts = closed(plan, pattern, name, ties)
        places = plan.scheme.places_of(name)
        self.assert_same(Forced(plan, pattern, name, ties=ties, less=less).freest(),
                         tuple(zip(*[ordered(facts, place, max(pattern), less) for place in range(places)])))
        return tuple(zip(*[ordered(facts, place, max(pattern), less) for place in range(places)]))

    def wish_of(self, plan, pattern, promise):
        """The ties and the less wish of the least place at which the left side may be greater, or None."""
        name = promise[1][0]
        places, kind = plan.scheme.places_of(name), plan.scheme.kind_of(name)
        wanted = whys.sides(promise, pattern)
        for place, (left, right) in enumerate(wanted):
            ties = tuple((b, one, other) for b, (one, other) in enumerate(wanted[:place]))
            facts = closed(plan, pattern, name, ties)
            alike = [x for x in range(max(pattern)) if all({(b, x, x + 1), (b, x + 1, x)} <= facts for b in range(places))]
            if kind == "strict" and alike:
                return None
            if (place, left, right) not in facts:
                return ties, (place, right, left)
        return None

    def test_the_documents_example(self):
        run = broken_by(LAMPORT, (0, 1), ("below", R))
        self.assert_same(run, (({"n": (0, 1)}, {"n": (1, 0)}), ("look", "write", "look")))
        played = play(LAMPORT, run)
        self.assert_same([played.answer(R), played.passes], [(0, 0), True])

    def test_between_is_below_first(self):
        # Both are broken by this pattern, by unlike rows.
        plan = plan_of(2, "strict", [0, 1, 0, 1], [1, 2], [])
        promise = ("n", (1, 0))
        below, above = [broken_by(plan, (0, 1), (word, promise)) for word in ("below", "above")]
        between = broken_by(plan, (0, 1), ("between", promise))
        self.assertIsNone(below)
        self.assert_same(between, above)
        for plan in small_plans():
            for word, reading, *more in promises_of(plan):
                if word == "between":
                    for pattern in patterns(plan):
                        below, above = [broken_by(plan, pattern, (half, reading)) for half in ("below", "above")]
                        self.assert_same(broken_by(plan, pattern, (word, reading)), below if below is not None else above)

    def test_new_dicts_each_time(self):
        for call in (lambda: broken_by(LAMPORT, (0, 1), ("below", R)), lambda: judge(LAMPORT, ("below", R)).run):
            one, other = call(), call()
            self.assert_same(one, other)
            for version in range(2):
                self.assertIsNot(one[0][version], other[0][version])
            one[0][0]["n"] = (7, 7)
            one[0][1].clear()
            self.assert_same(call(), other)

    def test_of_several_versions_no_two_are_one_dict(self):
        plan = plan_of(1, "weak", [0, 0], [0, 1, 0])
        for pattern in patterns(plan):
            run = broken_by(plan, pattern, ("together", (0, 1, 2)))
            if run is not None:
                self.assertEqual(len({id(version) for version in run[0]}), len(run[0]))


if __name__ == "__main__":
    unittest.main()
