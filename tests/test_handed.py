"""Readings that are handed on from one reader to a later one."""

import itertools
import unittest

from risingread.boards import Board
from risingread.errors import NoPlan, NoPromise, Unlike
from risingread.handed import handed, later, never_back, passed_on
from risingread.judge import Breaks, Holds, judge
from risingread.lookers import shows
from risingread.plans import Plan
from risingread.readers import Reader
from risingread.runs import attempts, play
from risingread.schemes import Scheme
from tests.brute import KINDS, least_versions
from tests.helper import Case, plan_of, readings_of

R = ("n", (0, 1))
LOW_FIRST = Scheme([("n", 2, "strict")], [("n", 1), ("n", 0)])
PLAIN = Plan(LOW_FIRST, [1, 0], [])
LAYOUT = Plan.layout("n", 2, 1)[1]


class TestHanded(Case):

    def test_looks_and_tests(self):
        scheme = Scheme([("n", 2, "weak"), ("m", 1, "free")], [("n", 1), ("m", 0), ("n", 0), ("m", 0)])
        first = Plan(scheme, [1, 0, 2, 3], [(0, 3)])
        second = Plan(scheme, [3, 2, 1], [(0, 2)])
        self.assertEqual(handed(first, second), Plan(scheme, [1, 0, 2, 3, 3, 2, 1], [(0, 3), (4, 6)]))
        self.assertEqual(handed(second, first), Plan(scheme, [3, 2, 1, 1, 0, 2, 3], [(0, 2), (3, 6)]))
        self.assertEqual(handed(second, second), Plan(scheme, [3, 2, 1, 3, 2, 1], [(0, 2), (3, 5)]))
        self.assert_same([first.looks, first.tests], [(1, 0, 2, 3), ((0, 3),)])

    def test_tests_stay_in_their_order(self):
        plan = plan_of(1, "strict", [0], [0, 0, 0], [(1, 2), (0, 1)])
        self.assert_same(handed(plan, plan).tests, ((1, 2), (0, 1), (4, 5), (3, 4)))

    def test_equal_schemes(self):
        other = Plan(Scheme([("n", 2, "strict")], [("n", 1), ("n", 0)]), [0, 1], [])
        self.assert_same(handed(PLAIN, other).looks, (1, 0, 0, 1))

    def test_unlike(self):
        others = [plan_of(2, "weak", [1, 0], [1, 0]), plan_of(2, "strict", [0, 1], [1, 0]), LAYOUT,
                  Plan(Scheme([("m", 2, "strict")], [("m", 1), ("m", 0)]), [1, 0], [])]
        for other in others:
            for one, two in ((PLAIN, other), (other, PLAIN)):
                self.assert_raises(Unlike, [], handed, one, two)
                self.assert_raises(Unlike, [], passed_on, one, R, two, R)
        # Ahead of too many looks.
        long = plan_of(2, "weak", [1, 0], [1, 0] * 4)
        self.assert_raises(Unlike, [], handed, PLAIN, long)

    def test_too_many_looks_and_tests(self):
        for many in range(1, 9):
            for more in range(1, 9):
                one, other = plan_of(1, "weak", [0], [0] * many), plan_of(1, "weak", [0], [0] * more)
                if many + more <= 8:
                    self.assertEqual(len(handed(one, other)), many + more)
                else:
                    self.assert_raises(NoPlan, ["looks", 8], handed, one, other)
                    self.assert_raises(NoPlan, ["looks", 8], passed_on, one, ("n", (0,)), other, ("n", (0,)))
        pairs = list(itertools.combinations(range(4), 2))
        for many, more in itertools.product(range(7), repeat=2):
            one = plan_of(1, "weak", [0], [0] * 4, pairs[:many])
            other = plan_of(1, "weak", [0], [0] * 4, pairs[:more])
            if many + more <= 8:
                self.assertEqual(len(handed(one, other).tests), many + more)
            else:
                self.assert_raises(NoPlan, ["tests", 8], handed, one, other)
        self.assert_raises(NoPlan, ["looks", 8], never_back, plan_of(1, "weak", [0], [0] * 5), ("n", (0,)))

    def test_later(self):
        self.assert_same(later(PLAIN, R), ("n", (2, 3)))
        self.assert_same(later(LAYOUT, ("n", (1,))), ("n", (4,)))
        self.assert_same(later(LAYOUT, ("other", (2, 0, 9))), ("other", (5, 3, 12)))
        for first, second in [(PLAIN, PLAIN), (LAYOUT, LAYOUT)]:
            plan = handed(first, second)
            for reading in readings_of(second):
                self.assertIs(plan.is_reading(later(first, reading)), True)
            self.assertEqual([reading for reading in readings_of(plan) if min(reading[1]) >= len(first)],
                             [later(first, reading) for reading in readings_of(second)])


class TestPassedOn(Case):

    def test_beside_the_judge(self):
        told = set()
        for kind in ("strict", "weak"):
            for cells in ([0, 1], [1, 0]):
                for looks, others in itertools.product([[0, 1], [1, 0], [0, 1, 0]], repeat=2):
                    first = plan_of(2, kind, cells, looks)
                    second = plan_of(2, kind, cells, others)
                    for one, other in itertools.product(readings_of(first), readings_of(second)):
                        verdict = passed_on(first, one, second, other)
                        plan = handed(first, second)
                        promise = ("order", one, (other[0], tuple(look + len(looks) for look in other[1])))
                        wanted = judge(plan, promise)
                        self.assertIs(verdict.__class__, wanted.__class__)
                        self.assertEqual(verdict.plan, plan)
                        self.assert_same(verdict.promise, promise)
                        self.assertIs(shows(verdict), True)
                        self.assert_same(verdict.length, wanted.length)
                        told.add(bool(verdict))
        self.assertEqual(told, {False})
        for reading in readings_of(LAYOUT):
            self.assertIs(bool(passed_on(LAYOUT, reading, LAYOUT, reading)), True)
            self.assertIs(shows(passed_on(LAYOUT, reading, LAYOUT, reading)), True)

    def test_never_back_beside_the_judge_and_a_search(self):
        for kind in ("strict", "weak"):
            for cells in ([0, 1], [1, 0], [0, 1, 0]):
                for looks in ([0, 1], [1, 0]):
                    plan = plan_of(2, kind, cells, looks)
                    for reading in readings_of(plan):
                        verdict = never_back(plan, reading)
                        self.assertEqual(verdict.plan, handed(plan, plan))
                        self.assert_same(verdict.promise, ("order", reading, later(plan, reading)))
                        self.assertIs(bool(verdict), bool(passed_on(plan, reading, plan, reading)))
                        wanted = least_versions(handed(plan, plan), verdict.promise, 3, 3)
                        if wanted is None:
                            self.assertIn(verdict.length, (None, 4))
                        else:
                            self.assert_same(verdict.length, wanted)

    def test_one_place_and_layouts(self):
        reading = ("n", (0,))
        for kind in ("strict", "weak"):
            early, late = plan_of(1, kind, [0, 0], [0]), plan_of(1, kind, [0, 0], [1])
            self.assertIs(never_back(early, reading).__class__, Holds)
            self.assertIs(never_back(late, reading).__class__, Holds)
            self.assertIs(passed_on(late, reading, early, reading).__class__, Holds)
            self.assertIs(passed_on(early, reading, late, reading).__class__, Breaks)

    def test_the_documents_example(self):
        verdict = never_back(PLAIN, R)
        self.assertIs(bool(verdict), False)
        self.assert_same(verdict.run[1], ("look", "look", "look", "write", "look"))
        told = list(attempts(PLAIN, verdict.run))
        self.assert_same([one.answer(R) for one in told], [(0, 1), (0, 0)])

    def test_free_numbers_and_what_is_no_reading(self):
        free = plan_of(1, "free", [0], [0])
        self.assert_raises(NoPromise, [("order", ("n", (0,)), ("n", (1,)))], never_back, free, ("n", (0,)))
        self.assert_raises(NoPromise, [("order", ("n", (1, 0)), ("n", (3, 2)))], never_back, PLAIN, ("n", (1, 0)))
        self.assert_raises(NoPromise, [("order", R, ("n", (3, 2)))], passed_on, PLAIN, R, PLAIN, ("n", (1, 0)))

    def test_three_readers_one_behind_the_other(self):
        # A plan that never goes back, whatever the writer does between the looks.
        plan = plan_of(1, "strict", [0, 0], [1])
        self.assertIs(bool(never_back(plan, ("n", (0,)))), True)
        for moments in itertools.combinations_with_replacement(range(7), 3):
            board = Board(plan.scheme, {"n": (10,)}, {"n": (0,)})
            heard = []
            for number, moment in enumerate(moments):
                for _ in range(moment - (moments[number - 1] if number else 0)):
                    if board.whole:
                        board.begin({"n": (board.version + 1,)})
                    board.step()
                reader = Reader(plan)
                reader(board)
                heard.append(reader.answer(("n", (0,))))
            self.assertEqual(heard, sorted(heard))

    def test_three_readers_of_a_layout(self):
        self.assertIs(bool(never_back(LAYOUT, ("n", (2, 1)))), True)
        versions = tuple({"n": digits} for digits in [(0, 1), (1, 0), (1, 1), (2, 0)])
        for moments in list(itertools.combinations_with_replacement(range(10), 9))[::17]:
            events, done = [], 0
            for moment in moments:
                events.extend(["write"] * (moment - done) + ["look"])
                done = moment
            told = [one for one in attempts(LAYOUT, (versions, events)) if one.passes]
            heard = [one.answer(("n", (2, 1))) for one in told]
            self.assertEqual(heard, sorted(heard))

    def test_the_run_of_a_verdict_goes_back(self):
        verdict = never_back(PLAIN, R)
        played = play(verdict.plan, verdict.run)
        self.assertLess(played.answer(("n", (2, 3))), played.answer(R))
        for kind in KINDS[:2]:
            plan = plan_of(2, kind, [0, 1], [0, 1])
            verdict = never_back(plan, R)
            played = play(verdict.plan, verdict.run)
            self.assertLess(played.answer(later(plan, R)), played.answer(R))


if __name__ == "__main__":
    unittest.main()
