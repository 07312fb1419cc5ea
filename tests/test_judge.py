"""The judge [34], [36]: verdicts beside a search of all runs, and which patterns break a promise."""

import itertools
import unittest

from risingread.errors import NoPromise, NoReading, NotPattern
from risingread.judge import Breaks, Holds, Verdict, broken_by, judge, kept, why
from risingread.patterns import patterns
from risingread.plans import Plan
from risingread.schemes import Scheme
from tests.brute import KINDS, breaks, least_versions, middle_plans, small_plans
from tests.helper import Case, anything, plan_of, promises_of, readings_of

LAMPORT = plan_of(2, "strict", [1, 0], [1, 0])
R = ("n", (0, 1))
MIDDLE = plan_of(2, "strict", [0, 1, 1, 0], [3, 2, 1, 0], [(0, 3), (1, 2)])
NO_PROMISES = [
    ("below", ("n", (1, 0))), ("below", ["n", (0, 1)]), ["below", R], ("below", ("x", (0, 1))), ("below", R, R),
    ("order", R), ("order", R, ("n", (1, 0))), ("together", (0,)), ("together", (1, 0)), ("together", [0, 1]),
    ("together", (0, True)), ("under", R), ("stood", None), (R, "below"), R, ("below",),
]
NO_PATTERNS = [(0,), (0, 1, 1), (1, 0), (0, 2), (1, 1), [0, 1], (0, True), (False, 0), (0, None), (0, "1"), (-1, 0)]


def great_plans():
    """Plans with eight looks, eight cells and eight tests at most."""
    tests = [(0, 4), (1, 5), (2, 6), (3, 7)]
    turned = [(0, 7), (1, 6), (2, 5), (3, 4)]
    more = [(0, 1), (1, 2), (2, 3), (3, 4), (4, 5), (5, 6), (6, 7), (0, 7)]
    found = []
    for kind in KINDS:
        found.append(plan_of(4, kind, [3, 2, 1, 0, 0, 1, 2, 3], range(7, -1, -1), turned))
        found.append(plan_of(4, kind, [0, 1, 2, 3, 0, 1, 2, 3], range(8), tests))
        found.append(plan_of(1, kind, [0] * 8, range(8), more))
        found.append(plan_of(1, kind, [0] * 8, [7, 6, 5, 4, 3, 2, 1, 0], more))
    found.append(plan_of(4, "strict", [3, 2, 1, 0, 3, 2, 1, 0], range(8)))
    numbers = [("a", 2, "strict"), ("b", 2, "weak"), ("c", 1, "free")]
    cells = [("a", 0), ("b", 0), ("c", 0), ("a", 1), ("a", 1), ("b", 1), ("c", 0), ("a", 0)]
    found.append(Plan(Scheme(numbers, cells), [7, 6, 5, 4, 3, 2, 1, 0],
                      [(0, 7), (1, 5), (3, 4)]))
    return found


class TestVerdicts(Case):

    def assert_verdict(self, plan, promise, wanted):
        """Assert that the verdict tells so many versions, None for a promise that is kept."""
        verdict = judge(plan, promise)
        self.assertIs(bool(verdict), wanted is None, (plan.scheme.cells, plan.looks, plan.tests, promise))
        self.assert_same(verdict.length, wanted)
        self.assertIs(verdict.__class__, Holds if wanted is None else Breaks)
        self.assertIsInstance(verdict, Verdict)
        self.assertEqual(verdict.plan, plan)
        self.assert_same(verdict.promise, promise)
        return verdict

    def test_beside_a_search_of_all_runs(self):
        told = set()
        for plan in small_plans():
            most = len(plan.looks)
            for promise in promises_of(plan):
                if most < 4:
                    wanted = least_versions(plan, promise, most, most)
                    self.assert_verdict(plan, promise, wanted)
                    told.add((promise[0], wanted is None))
        self.assertEqual(told, set(itertools.product(("below", "above", "between", "stood", "order", "together"),
                                                     (True, False))))

    def test_four_looks_beside_a_search(self):
        for plan in middle_plans() + [plan for plan in small_plans() if len(plan.looks) == 4]:
            for promise in promises_of(plan):
                wanted = least_versions(plan, promise, 3, 3)
                verdict = judge(plan, promise)
                if wanted is None:
                    self.assertIn(verdict.length, (None, 4))
                else:
                    self.assert_verdict(plan, promise, wanted)

    def test_four_versions_beside_a_search(self):
        for kind in ("strict", "weak"):
            plan = plan_of(2, kind, [0, 1, 1, 0], [3, 2, 1, 0], [(0, 3), (1, 2)])
            for promise in promises_of(plan)[:12]:
                self.assert_verdict(plan, promise, least_versions(plan, promise, 4, 4))

    def test_each_pattern_beside_a_search(self):
        for plan in small_plans()[::2]:
            for promise in promises_of(plan)[::2]:
                for pattern in patterns(plan):
                    if max(pattern) < 3:
                        many = max(pattern) + 1
                        is_broken = breaks(plan, promise, pattern, many, many)
                        self.assertIs(broken_by(plan, pattern, promise) is not None, is_broken)
                        self.assertIs(why(plan, pattern, promise) is None, is_broken)

    def test_rows_and_the_first_pattern(self):
        for plan in small_plans()[::3] + middle_plans()[::2]:
            known = list(patterns(plan))
            for promise in promises_of(plan):
                verdict = judge(plan, promise)
                whys = [why(plan, pattern, promise) for pattern in known]
                if bool(verdict):
                    self.assert_same(verdict.rows, tuple(zip(known, whys)))
                else:
                    at = whys.index(None)
                    self.assert_same(verdict.pattern, known[at])
                    self.assert_same(verdict.run, broken_by(plan, known[at], promise))
                    self.assert_same(verdict.length, max(known[at]) + 1)

    def test_readings_of_one_place_stood(self):
        for kind in KINDS:
            plan = plan_of(1, kind, [0, 0], [0, 1, 0], [])
            for reading in readings_of(plan):
                self.assert_verdict(plan, ("stood", reading), None)

    def test_the_greatest_plans(self):
        told = {}
        for plan in great_plans():
            name = plan.scheme.numbers[0][0]
            chosen = [promise for promise in promises_of(plan) if promise[0] == "together" or promise[1][0] == name]
            for word in ("below", "above", "between", "stood", "order", "together"):
                rows = [promise for promise in chosen if promise[0] == word]
                for promise in rows[1:2] if word == "order" else rows[-1:]:
                    verdict = judge(plan, promise)
                    told.setdefault(word, set()).add(bool(verdict))
                    if bool(verdict):
                        self.assertEqual([row[0] for row in verdict.rows], list(patterns(plan)))
        for word in told:
            self.assertEqual(told[word], {True, False}, word)

    def test_together_is_kept_by_a_strict_mark_alone(self):
        # A strict number is looked at first and last: its equal digits tell one version.
        for kind in KINDS:
            scheme = Scheme([("m", 1, kind), ("d", 1, "free"), ("e", 1, "free")],
                            [("m", 0), ("d", 0), ("e", 0), ("m", 0)])
            plan = Plan(scheme, [3, 1, 2, 0], [(0, 3)])
            self.assert_verdict(plan, ("together", (1, 2)), None if kind == "strict" else 2)

    def test_the_same_again(self):
        for promise in promises_of(MIDDLE)[::5]:
            one, other = judge(MIDDLE, promise), judge(MIDDLE, promise)
            self.assertEqual([bool(one), one.length], [bool(other), other.length])
            if bool(one):
                self.assert_same(one.rows, other.rows)
            else:
                self.assert_same((one.pattern, one.run), (other.pattern, other.run))
                one.run[0][0].clear()
                self.assert_same(judge(MIDDLE, promise).run, other.run)
            self.assertFalse(one == other)


class TestErrors(Case):

    def test_no_promise(self):
        for call in (judge, lambda plan, promise: why(plan, (0, 1), promise),
                     lambda plan, promise: broken_by(plan, (0, 1), promise),
                     lambda plan, promise: why(plan, None, promise),
                     lambda plan, promise: broken_by(plan, (0, 1, 1), promise)):
            for thing in NO_PROMISES + anything():
                self.assert_raises(NoPromise, [thing], call, LAMPORT, thing)

    def test_no_pattern(self):
        for call in (why, broken_by):
            for thing in NO_PATTERNS + anything():
                self.assert_raises(NotPattern, [], call, LAMPORT, thing, ("above", R))

    def test_no_promise_of_a_free_number(self):
        plan = plan_of(2, "free", [1, 0], [1, 0])
        for promise in [("below", R), ("above", R), ("between", R), ("order", R, R)]:
            self.assert_raises(NoPromise, [promise], judge, plan, promise)


class TestKept(Case):

    def test_beside_the_judge(self):
        for plan in small_plans() + middle_plans():
            for reading in readings_of(plan):
                words = [word for word in ("below", "above", "between", "stood")
                         if (word, reading) in promises_of(plan) and bool(judge(plan, (word, reading)))]
                self.assert_same(kept(plan, reading), tuple(words))

    def test_numbers_from_the_lowest_up_and_read_from_the_highest_down(self):
        for places in range(1, 5):
            reading = ("n", tuple(range(places)))
            down = plan_of(places, "strict", list(range(places))[::-1], list(range(places))[::-1])
            self.assert_same(kept(down, reading), ("below", "above", "between", "stood") if places == 1 else ("above",))
            up = plan_of(places, "strict", range(places), list(range(places))[::-1])
            turned = ("n", tuple(range(places))[::-1])
            self.assert_same(kept(up, turned), ("below", "above", "between", "stood") if places == 1 else ("below",))

    def test_no_other_orders_are_right(self):
        # One number in one row of cells, read once: just one pair of orders for each promise.
        for places in (2, 3):
            for written, read in itertools.product(itertools.permutations(range(places)), repeat=2):
                plan = plan_of(places, "strict", written, [written.index(place) for place in read])
                reading = ("n", tuple(read.index(place) for place in range(places)))
                wanted = ()
                if list(written) == sorted(written) and list(read) == sorted(read, reverse=True):
                    wanted = ("below",)
                if list(written) == sorted(written, reverse=True) and list(read) == sorted(read):
                    wanted = ("above",)
                self.assert_same(kept(plan, reading), wanted)

    def test_free_numbers(self):
        self.assert_same(kept(plan_of(1, "free", [0, 0], [1, 0]), ("n", (0,))), ("stood",))
        self.assert_same(kept(plan_of(2, "free", [1, 0], [1, 0]), R), ())

    def test_the_documents_examples(self):
        self.assert_same(kept(LAMPORT, R), ("above",))
        self.assert_same(kept(MIDDLE, ("n", (3, 2))), ("below", "above", "between", "stood"))

    def test_no_reading(self):
        for thing in anything() + [("n", (1, 0)), ("n", [0, 1]), ["n", (0, 1)], ("x", (0, 1)), ("n", (0,)),
                                   ("n", (False, 1)), ("below", R)]:
            self.assert_raises(NoReading, [thing], kept, LAMPORT, thing)


class TestMadeByHand(Case):

    def test_holds(self):
        for rows in [(), [], None, (((0, 0), ("one",)),), [1, [2]], "rows", {0: [1]}]:
            verdict = Holds(LAMPORT, ("above", R), rows)
            self.assert_same([verdict.rows, verdict.promise, verdict.length], [rows, ("above", R), None])
            self.assertIs(bool(verdict), True)
            self.assertEqual(verdict.plan, LAMPORT)
            self.assertIsInstance(verdict, Verdict)

    def test_breaks(self):
        for many in range(4):
            run = ([{"n": (0, 1)}] * many, ["look"])
            verdict = Breaks(LAMPORT, ["no promise"], (0, 9), run)
            self.assert_same([verdict.pattern, verdict.promise, verdict.run], [(0, 9), ["no promise"], run])
            self.assertIs(bool(verdict), False)
            self.assert_same(verdict.length, many)
            self.assertIsInstance(verdict, Verdict)

    def test_what_is_kept_is_copied(self):
        rows = [[(0, 0), ["walk", {"a": [1]}]]]
        promise = ["above", ["n"]]
        holds = Holds(LAMPORT, promise, rows)
        run = ([{"n": (0, 1)}], ["look", ["look"]])
        pattern = [0, [1]]
        breaking = Breaks(LAMPORT, promise, pattern, run)
        pattern[1].append(2)
        rows[0][1][1]["a"].append(2)
        rows.append(3)
        promise[1].append(0)
        run[0][0]["n"] = (5, 5)
        run[0].append({})
        run[1][1].append("write")
        self.assert_same(holds.rows, [[(0, 0), ["walk", {"a": [1]}]]])
        self.assert_same([holds.promise, breaking.promise], [["above", ["n"]], ["above", ["n"]]])
        self.assert_same(breaking.run, ([{"n": (0, 1)}], ["look", ["look"]]))
        self.assert_same(breaking.pattern, [0, [1]])

    def test_equal_to_nothing_else(self):
        one, other = Holds(LAMPORT, ("above", R), ()), Holds(LAMPORT, ("above", R), ())
        self.assertFalse(one == other)
        self.assertTrue(one != other)
        self.assertFalse(one == True)  # noqa: E712
        self.assertTrue(one == one)


if __name__ == "__main__":
    unittest.main()
