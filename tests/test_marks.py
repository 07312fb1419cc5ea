"""Marks that come round [46], and how far apart before and after may be [47]."""

import itertools
import unittest

from risingread.errors import NoMark, NoPromise, TooMany
from risingread.judge import broken_by, judge
from risingread.lookers import shows_breaks
from risingread.marks import Marks
from risingread.patterns import patterns
from risingread.plans import Plan
from risingread.runs import play
from risingread.schemes import Scheme
from tests.brute import KINDS, all_seen, is_true, passes, rows_of
from tests.helper import Case, anything, promises_of

NUMBERS = [("m", 1, "free"), ("d", 1, "free"), ("e", 1, "free")]
PLAN = Plan(Scheme(NUMBERS, [("m", 0), ("d", 0), ("e", 0), ("m", 0)]), [3, 1, 2, 0], [(0, 3)])
# Another number, a strict mark, a weak one and one of two places; m alone is a mark.
MIXED = Plan(Scheme([("m", 1, "free"), ("s", 1, "strict"), ("w", 2, "free")],
                    [("m", 0), ("s", 0), ("w", 0), ("w", 1)]), [0, 1, 2, 3], [])
SHAPES = [
    (1, [("m", 0), ("d", 0), ("m", 0)], [2, 1, 0], [(0, 2)]),
    (1, [("m", 0), ("d", 0)], [0, 1, 0, 1], [(0, 2)]),
    (1, [("m", 0), ("d", 0)], [0, 1, 0, 1], [(0, 2), (1, 3)]),
    (1, [("d", 0), ("m", 0)], [0, 1, 0], []),
    (1, [("m", 0), ("d", 0), ("m", 0), ("d", 0)], [2, 1, 0, 3], [(0, 2)]),
    (1, [("m", 0), ("m", 0), ("m", 0), ("d", 0)], [0, 1, 2, 3], [(0, 1), (1, 2)]),
    (2, [("m", 0), ("d", 0), ("d", 1), ("m", 0)], [3, 1, 2, 0], [(0, 3)]),
    (2, [("m", 0), ("d", 1), ("d", 0)], [0, 1, 2, 0], [(0, 3)]),
    (2, [("d", 0), ("m", 0), ("d", 1)], [2, 1, 0, 1], [(1, 3)]),
]


def plans_of(kind):
    """Plans of a mark m and another number d of this kind, each with digits and versions that can be gone through."""
    found = []
    for places, cells, looks, tests in SHAPES:
        plan = Plan(Scheme([("m", 1, "free"), ("d", places, kind)], cells), looks, tests)
        most, base = (6, 6) if places == 1 else (4, 4)
        if kind == "free":
            most, base = (5, 3) if places == 1 else (4, 2)
        found.append((plan, most, base))
    return found


def is_broken(plan, modulus, promise, seen, many, base):
    """Whether a run of so many versions in which m comes round breaks the promise, when just this is seen."""
    about = None if promise[0] == "together" else promise[1][0]
    for name, places, kind in plan.scheme.numbers:
        rows = [tuple((x % modulus,) for x in range(many))] if name == "m" else rows_of(kind, places, many, base)
        rows = [row for row in rows if passes(plan, name, seen, row)]
        if name == about:
            rows = [row for row in rows if not is_true(promise, seen, row)]
        if not rows:
            return False
    return about is not None or not is_true(promise, seen, None)


def search_runs(plan, modulus, promise, most, base):
    """The limit by all runs of at most so many versions; None if none of them breaks the promise."""
    for many in range(1, most + 1):
        if any(is_broken(plan, modulus, promise, seen, many, base) for seen in all_seen(plan, many)):
            return many - 2
    return None


def search_levels(plan, modulus, promise):
    """The limit by all versions of the levels of all patterns, as [47] tells it."""
    tests = [test for test in plan.tests if plan.place_at(test[0])[0] == "m"]
    others = [test for test in plan.tests if test not in tests]
    plain = Plan(plan.scheme, list(plan.looks), others)
    found = []
    for pattern in patterns(plain):
        if broken_by(plain, pattern, promise) is None:
            continue
        for chosen in itertools.combinations(range(1, max(pattern) * (modulus + 1) + 1), max(pattern)):
            numbers = (0,) + chosen
            pairs = [(pattern[one], pattern[other]) for one, other in itertools.combinations(range(len(pattern)), 2)]
            if all(numbers[one] == numbers[other] + 1 for one, other in pairs if other == one - 1) and all(
                    (numbers[pattern[one]] - numbers[pattern[other]]) % modulus == 0 for one, other in tests):
                found.append(numbers[-1])
    return min(found) - 1 if found else None


class TestMade(Case):

    def test_each_modulus(self):
        for modulus in range(2, 10):
            marks = Marks(PLAN, "m", modulus)
            self.assert_same([marks.name, marks.modulus], ["m", modulus])
            self.assertEqual(marks.plan, PLAN)

    def test_the_twin(self):
        twin = Marks(PLAN, "m", 3).twin
        self.assertIs(twin.__class__, Plan)
        numbers = [("m", 1, "strict"), ("d", 1, "free"), ("e", 1, "free")]
        self.assertEqual(twin, Plan(Scheme(numbers, list(PLAN.scheme.cells)), [3, 1, 2, 0], [(0, 3)]))
        twin = Marks(PLAN, "e", 3).twin
        self.assert_same(twin.scheme.numbers, (("m", 1, "free"), ("d", 1, "free"), ("e", 1, "strict")))
        self.assert_same(Marks(MIXED, "m", 2).twin.scheme.numbers,
                         (("m", 1, "strict"), ("s", 1, "strict"), ("w", 2, "free")))
        self.assert_same(PLAN.scheme.numbers, tuple(NUMBERS))

    def test_what_is_no_mark(self):
        for name in ["s", "w", "x", "", "M", ("m",), ["m"], ("m", 0), ("m", 1, "free"), {"m": 1}] + anything():
            self.assert_raises(NoMark, [name], Marks, MIXED, name, 3)
            self.assert_raises(NoMark, [name], Marks, MIXED, name, 99)
        for kind in ("strict", "weak"):
            plan = Plan(Scheme([("m", 1, kind)], [("m", 0)]), [0], [])
            self.assert_raises(NoMark, ["m"], Marks, plan, "m", 3)

    def test_what_is_no_modulus(self):
        things = [0, 1, 10, -2, 10 ** 59, True, False, None, "3", (3,), [3], {3: 3}]
        for thing in things + [thing for thing in anything() if thing not in range(2, 10) or isinstance(thing, bool)]:
            self.assert_raises(NoMark, ["m"], Marks, PLAN, "m", thing)


class TestDigits(Case):

    def test_digits(self):
        for modulus in range(2, 10):
            marks = Marks(PLAN, "m", modulus)
            for version in list(range(30)) + [10 ** 59, 10 ** 59 + 1]:
                digit = marks.digit(version)
                self.assertTrue(0 <= digit < modulus)
                self.assertEqual((version - digit) % modulus, 0)
        self.assert_same([Marks(PLAN, "m", 3).digit(version) for version in range(7)], [0, 1, 2, 0, 1, 2, 0])

    def test_versions_with_and_without_the_marks_digit(self):
        marks = Marks(PLAN, "m", 2)
        with_it = [{"m": (7,), "d": (4,), "e": (5,)}, {"d": (6,), "e": (7,)}, {"e": (1,), "m": (1,), "d": (8,)}, {}]
        wanted = ({"m": (0,), "d": (4,), "e": (5,)}, {"d": (6,), "e": (7,), "m": (1,)},
                  {"e": (1,), "m": (0,), "d": (8,)}, {"m": (1,)})
        for versions in (with_it, tuple(with_it)):
            before = repr(versions)
            told = marks(versions)
            self.assertEqual(told, wanted)
            self.assertIs(told.__class__, tuple)
            for version in told:
                self.assertIs(version.__class__, dict)
                self.assertIs(version["m"].__class__, tuple)
            self.assertEqual(repr(versions), before)
        self.assert_same(marks([]), ())
        self.assert_same(marks(()), ())

    def test_copies(self):
        marks = Marks(PLAN, "m", 2)
        versions = [{"m": (0,), "d": (4,), "e": [5]}, {"m": (1,), "d": (4,), "e": [5]}]
        told = marks(versions)
        self.assertIsNot(told[0], versions[0])
        versions[0]["d"] = (9,)
        versions[1]["e"].append(6)
        self.assertEqual(told, ({"m": (0,), "d": (4,), "e": [5]}, {"m": (1,), "d": (4,), "e": [5]}))
        told[0].clear()
        self.assertEqual(versions[0], {"m": (0,), "d": (9,), "e": [5]})

    def test_looks_that_are_tested_pass_by_the_versions_modulo_m(self):
        for modulus in (2, 3):
            marks = Marks(PLAN, "m", modulus)
            versions = marks([{"d": (0,), "e": (0,)}] * 8)
            rising = tuple({"m": (x,), "d": (0,), "e": (0,)} for x in range(8))
            for apart in range(7):
                # Version 0 is seen first, and the last look sees the version that is so much later.
                events = ("look",) * 3 + ("write",) * (4 * apart) + ("look",)
                played = play(PLAN, (versions, events))
                self.assertEqual(played.after - played.before, apart)
                self.assertIs(played.passes, apart % modulus == 0)
                if apart < modulus:
                    self.assertIs(played.passes, play(marks.twin, (rising, events)).passes)


class TestLimits(Case):

    def test_beside_a_search_of_all_runs(self):
        told = set()
        for kind in KINDS:
            for plan, most, base in plans_of(kind):
                for modulus in (2, 3):
                    marks = Marks(plan, "m", modulus)
                    for promise in promises_of(plan)[::2]:
                        limit = marks.limit(promise)
                        wanted = search_runs(plan, modulus, promise, most, base)
                        if wanted is None:
                            # What is broken by more versions than were gone through is not found.
                            self.assertTrue(limit is None or limit > most - 2)
                        else:
                            self.assert_same(limit, wanted)
                        told.add(limit)
        self.assertLessEqual({None, 0, 1, 2}, told)

    def test_beside_a_search_of_the_versions_of_the_levels(self):
        told = set()
        for kind in ("strict", "free"):
            for plan, _, _ in plans_of(kind):
                for modulus in (2, 3, 4):
                    marks = Marks(plan, "m", modulus)
                    for promise in promises_of(plan)[::3]:
                        limit = marks.limit(promise)
                        self.assert_same(limit, search_levels(plan, modulus, promise))
                        told.add(limit)
        self.assertLessEqual({None, 0, 1, 2, 3}, told)

    def test_each_modulus(self):
        for modulus in range(2, 10):
            marks = Marks(PLAN, "m", modulus)
            self.assert_same(marks.limit(("together", (1, 2))), modulus - 1)
            self.assert_example(marks, ("together", (1, 2)))
            self.assert_same(marks.limit(("stood", ("d", (1,)))), None)
            self.assertIsNone(marks.example(("stood", ("d", (1,)))))

    def test_a_whole_round_between_two_looks(self):
        plan = Plan(PLAN.scheme, [0, 0], [(0, 1)])
        for modulus in range(2, 10):
            self.assert_same(Marks(plan, "m", modulus).limit(("together", (0, 1))), modulus - 1)
            self.assert_example(Marks(plan, "m", modulus), ("together", (0, 1)))

    def test_a_mark_that_is_not_looked_at(self):
        plan = Plan(PLAN.scheme, [1, 2], [])
        self.assert_same(Marks(plan, "m", 9).limit(("together", (0, 1))), 0)
        self.assert_example(Marks(plan, "m", 9), ("together", (0, 1)))

    def test_five_looks(self):
        numbers = [("m", 1, "free"), ("n", 2, "strict")]
        scheme = Scheme(numbers, [("m", 0), ("n", 1), ("n", 0), ("m", 0)])
        plan = Plan(scheme, [3, 2, 1, 0, 3], [(0, 3), (0, 4)])
        for modulus in (2, 5, 9):
            marks = Marks(plan, "m", modulus)
            for promise in promises_of(plan):
                self.assert_example(marks, promise)
        plan = Plan(scheme, [3, 2, 1, 0, 3, 0], [])
        for promise in promises_of(plan):
            self.assert_raises(TooMany, [5], Marks(plan, "m", 2).limit, promise)
            self.assert_raises(TooMany, [5], Marks(plan, "m", 2).example, promise)

    def test_if_the_twin_keeps_a_promise_the_limit_is_great(self):
        found = 0
        for kind in KINDS:
            for plan, _, _ in plans_of(kind):
                for modulus in (2, 3, 9):
                    marks = Marks(plan, "m", modulus)
                    for promise in promises_of(plan):
                        if bool(judge(marks.twin, promise)):
                            limit = marks.limit(promise)
                            self.assertTrue(limit is None or limit >= modulus - 1)
                            found += limit is not None
        self.assertGreater(found, 10)

    def test_if_the_plan_keeps_a_promise_there_is_no_limit(self):
        for kind in KINDS:
            for plan, _, _ in plans_of(kind):
                for promise in promises_of(plan):
                    if bool(judge(plan, promise)):
                        self.assertIsNone(Marks(plan, "m", 3).limit(promise))

    def test_examples(self):
        for kind in KINDS:
            for plan, _, _ in plans_of(kind):
                for modulus in (2, 3, 7):
                    for promise in promises_of(plan):
                        self.assert_example(Marks(plan, "m", modulus), promise)

    def assert_example(self, marks, promise):
        """Assert that the example breaks the promise, with versions that are one further apart than the limit."""
        limit, run = marks.limit(promise), marks.example(promise)
        if limit is None:
            self.assertIsNone(run)
            return
        self.assertIs(limit.__class__, int)
        played = play(marks.plan, run)
        self.assert_same(played.after - played.before, limit + 1)
        self.assertIs(played.breaks(promise), True)
        # No version is told that is not asked for.
        self.assertEqual((played.before, len(run[0])), (0, played.after + 1))
        self.assertIs(shows_breaks(marks.plan, promise, run), True)
        self.assertEqual((run.__class__, run[0].__class__, run[1].__class__), (tuple, tuple, tuple))
        self.assertEqual(marks(run[0]), run[0])
        other = marks.example(promise)
        other[0][0].clear()
        self.assertEqual(marks.example(promise), run)

    def test_runs_within_the_limit_break_nothing(self):
        for kind in KINDS:
            for plan, most, base in plans_of(kind)[::2]:
                for promise in promises_of(plan)[::3]:
                    limit = Marks(plan, "m", 3).limit(promise)
                    many = most if limit is None else min(limit + 1, most)
                    seen = [row for row in all_seen(plan, many)]
                    self.assertFalse(any(is_broken(plan, 3, promise, row, many, base) for row in seen))

    def test_no_promise(self):
        plan = Plan(PLAN.scheme, [3, 1, 2, 0, 3, 1, 2, 0], [(0, 3)])
        for thing in anything() + [("below", ("m", (0,))), ["together", (1, 2)], ("together", (2, 1)), ("stood", ("m", (1,)))]:
            for marks in (Marks(PLAN, "m", 3), Marks(plan, "m", 3)):
                self.assert_raises(NoPromise, [thing], marks.limit, thing)
                self.assert_raises(NoPromise, [thing], marks.example, thing)

    def test_a_promise_of_the_twin_alone_is_none(self):
        promise = ("below", ("m", (0,)))
        marks = Marks(PLAN, "m", 3)
        self.assertIs(marks.twin.is_promise(promise), True)
        self.assert_raises(NoPromise, [promise], marks.limit, promise)

    def test_the_same_again(self):
        marks = Marks(PLAN, "m", 3)
        before = repr([PLAN.looks, PLAN.tests, PLAN.scheme.cells, PLAN.scheme.numbers])
        for promise in promises_of(PLAN):
            self.assert_stays(marks.limit, promise)
            self.assert_stays(marks.example, promise)
        self.assertEqual(repr([PLAN.looks, PLAN.tests, PLAN.scheme.cells, PLAN.scheme.numbers]), before)


if __name__ == "__main__":
    unittest.main()
