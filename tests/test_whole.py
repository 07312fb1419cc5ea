"""The whole program: one question asked in several ways, and the facts of [3], [12], [13] and [14]."""

import itertools
import unittest

from risingread.bases import bases_for
from risingread.boards import Board
from risingread.desk import Desk
from risingread.judge import judge, kept, why
from risingread.lookers import shows, shows_breaks, shows_least
from risingread.orders import moved, reread, rewritten
from risingread.patterns import patterns
from risingread.plans import Plan
from risingread.readers import Reader
from risingread.runs import play
from risingread.schemes import Scheme
from risingread.texts import read_plan, read_promise, read_run, show_plan, show_promise, show_run, table
from tests.brute import is_true, middle_plans, passes, rows_of, small_plans
from tests.helper import Case, plan_of, promises_of, readings_of, written

PLANS = small_plans() + middle_plans()


def like(verdict):
    """What is told by a verdict, but for the plan's names."""
    return [bool(verdict), verdict.length]


def renamed(plan, names):
    """The plan with other names."""
    return Plan(plan.scheme.renamed(names), list(plan.looks), list(plan.tests))


def with_names(promise, names):
    """The promise with other names."""
    if promise[0] == "together":
        return promise
    return promise[:1] + tuple((names[name], looks) for name, looks in promise[1:])


class TestAskedInSeveralWays(Case):

    def test_written_read_and_told_to_a_desk(self):
        for plan in PLANS:
            read = read_plan(show_plan(plan))
            desk = Desk()
            desk.say_all(*show_plan(plan).split("\n"))
            for promise in promises_of(plan)[::2]:
                verdict = judge(plan, promise)
                other = judge(read, read_promise(show_promise(promise)))
                self.assert_same(like(verdict), like(other))
                if bool(verdict):
                    self.assert_same(other.rows, verdict.rows)
                    self.assertEqual(len(table(other.rows)), len(verdict.rows))
                    wanted = f"holds {len(verdict.rows)}"
                else:
                    self.assert_same([other.pattern, other.run], [verdict.pattern, verdict.run])
                    wanted = "breaks " + show_run(verdict.run).replace("\n", " / ")
                    self.assertIs(shows_breaks(plan, promise, read_run(show_run(verdict.run))), True)
                if promise[0] != "order":
                    self.assert_same(desk.say(show_promise(promise)), wanted)

    def test_other_names(self):
        for plan in PLANS:
            names = {name: new for (name, _, _), new in zip(plan.scheme.numbers, ["zz", "a", "none"])}
            other = renamed(plan, names)
            self.assertEqual(list(patterns(other)), list(patterns(plan)))
            for promise in promises_of(plan)[::2]:
                one, two = judge(plan, promise), judge(other, with_names(promise, names))
                self.assert_same(like(one), like(two))
                self.assertIs(shows(two), True)
                if not bool(one):
                    self.assert_same([one.pattern, one.run[1]], [two.pattern, two.run[1]])
                    self.assertEqual([{names[name]: version[name] for name in version} for version in one.run[0]],
                                     list(two.run[0]))

    def test_mirrors(self):
        for plan in PLANS:
            mirror = plan.mirror()
            for promise in promises_of(plan):
                one, two = judge(plan, promise), judge(mirror, plan.turned(promise))
                self.assert_same(like(one), like(two))
                self.assertIs(shows(two), True)

    def test_kept_of_mirrors(self):
        words = {"below": "above", "above": "below"}
        for plan in PLANS:
            for reading in readings_of(plan):
                turned = plan.turned(("stood", reading))[1]
                self.assertEqual({words.get(word, word) for word in kept(plan, reading)}, set(kept(plan.mirror(), turned)))

    def test_orders_that_change_nothing(self):
        for plan in PLANS[::3]:
            cells, looks = tuple(range(len(plan.scheme))), tuple(range(len(plan)))
            self.assertEqual([rewritten(plan, cells), reread(plan, looks)], [plan, plan])
            for promise in promises_of(plan):
                self.assert_same(moved(promise, looks), promise)

    def test_mirrors_are_both_orders_turned(self):
        for plan in PLANS:
            cells = tuple(range(len(plan.scheme)))[::-1]
            looks = tuple(range(len(plan)))[::-1]
            other = reread(rewritten(plan, cells), looks)
            self.assertEqual(other, plan.mirror())
            for promise in promises_of(plan):
                if promise[0] in ("stood", "between", "together"):
                    self.assert_same(moved(promise, looks), plan.turned(promise))

    def test_a_told_run_is_done_on_a_board_with_a_reader(self):
        done = 0
        for plan in PLANS:
            for promise in promises_of(plan):
                verdict = judge(plan, promise)
                if not bool(verdict):
                    self.assert_done(plan, promise, verdict.run)
                    done += 1
        self.assertGreater(done, 300)

    def assert_done(self, plan, promise, run):
        """Assert that a reader at a board hears what the run tells, and that it breaks the promise."""
        versions, events = run
        bases = {name: bases_for([version[name] for version in versions]) for name, _, _ in plan.scheme.numbers}
        board = Board(plan.scheme, bases, versions[0])
        reader = Reader(plan)
        for event in events:
            if event == "look":
                reader(board)
            else:
                if board.whole:
                    board.begin(versions[board.version + 1])
                board.step()
        played = play(plan, run)
        self.assert_same([reader.so_far, reader.sights, reader.left], [played.heard, played.seen, 0])
        self.assertIs(reader.passed, True)
        self.assertIs(played.breaks(promise), True)
        rows = {name: [version[name] for version in versions] for name, _, _ in plan.scheme.numbers}
        row = None if promise[0] == "together" else rows[promise[1][0]]
        self.assertIs(is_true(promise, reader.sights, row), False)
        for name in rows:
            self.assertIs(passes(plan, name, reader.sights, rows[name]), True)
        if promise[0] != "together":
            self.assert_same(reader.answer(promise[1]), played.answer(promise[1]))


class TestFacts(Case):

    def test_a_run_has_at_most_as_many_versions_as_looks(self):
        for plan in PLANS:
            for promise in promises_of(plan):
                verdict = judge(plan, promise)
                if not bool(verdict):
                    self.assertLessEqual(verdict.length, len(plan))
                    self.assertEqual(verdict.length, len(verdict.run[0]))

    def test_no_run_with_fewer_versions_breaks_it(self):
        for plan in PLANS:
            known = list(patterns(plan))
            for promise in promises_of(plan)[::3]:
                verdict = judge(plan, promise)
                if not bool(verdict):
                    fewer = [pattern for pattern in known if max(pattern) <= verdict.length - 2]
                    rows = [(pattern, why(plan, pattern, promise)) for pattern in fewer]
                    self.assertIs(shows_least(plan, promise, verdict.run, rows), True)

    def test_before_and_after_by_the_writer(self):
        # before: the last version that is wholly written at the first look; after: the newest one at the last look.
        for plan in [plan for plan in PLANS if len(plan) < 4][::2]:
            many = len(plan)
            cells = len(plan.scheme)
            moments = range((many - 1) * cells + 1)
            standing = [written(plan, moment) for moment in moments]
            weavings = set()
            for chosen in itertools.combinations_with_replacement(moments, many):
                seen = tuple(standing[moment][cell] for moment, cell in zip(chosen, plan.looks))
                weavings.add((seen, chosen[0] // cells, -(-chosen[-1] // cells)))
            for promise in promises_of(plan):
                if promise[0] in ("below", "above", "between", "stood"):
                    broken = any(self.is_broken(plan, promise, many, *weaving) for weaving in weavings)
                    self.assertIs(broken, not bool(judge(plan, promise)), (plan.scheme.cells, plan.looks, promise))

    def is_broken(self, plan, promise, many, seen, before, after):
        """Whether some rows break the promise, with these versions as before and after."""
        self.assertTrue(before <= min(seen) and max(seen) <= after)
        for name, places, kind in plan.scheme.numbers:
            rows = [row for row in rows_of(kind, places, many, many) if passes(plan, name, seen, row)]
            if name == promise[1][0]:
                heard = [tuple(row[seen[look]][place] for place, look in enumerate(promise[1][1])) for row in rows]
                rows = [row for row, digits in zip(rows, heard) if not {
                    "below": row[before] <= digits, "above": digits <= row[after],
                    "between": row[before] <= digits <= row[after], "stood": digits in row[before:after + 1]}[promise[0]]]
            if not rows:
                return False
        return True

    def test_layouts_keep_what_stood(self):
        for places in range(1, 5):
            for single in range(places):
                plan = Plan.layout("n", places, single)[1]
                first = [min(look for look in range(len(plan)) if plan.place_at(look) == ("n", place))
                         for place in range(places)]
                self.assertEqual(len(plan), 2 * places - 1 if single == places - 1 else 2 * places)
                for kind in ("strict", "weak"):
                    scheme = Scheme([("n", places, kind)], list(plan.scheme.cells))
                    verdict = judge(Plan(scheme, list(plan.looks), list(plan.tests)), ("stood", ("n", tuple(first))))
                    self.assertIs(bool(verdict), True)
                    self.assertIs(shows(verdict), True)

    def test_tests_take_attempts_away(self):
        # What is kept with some of the tests is kept with all of them.
        for plan in PLANS:
            for many in range(len(plan.tests)):
                fewer = Plan(plan.scheme, list(plan.looks), list(plan.tests[:many]))
                for promise in promises_of(plan)[::2]:
                    if bool(judge(fewer, promise)):
                        self.assertIs(bool(judge(plan, promise)), True)

    def test_what_is_kept_of_a_weak_number_is_kept_of_a_strict_one(self):
        for plan in small_plans()[13:26] + middle_plans()[5:10]:
            strict = plan_of(plan.scheme.places_of("n"), "strict", [place for _, place in plan.scheme.cells],
                             plan.looks, plan.tests)
            for promise in promises_of(plan):
                if bool(judge(plan, promise)):
                    self.assertIs(bool(judge(strict, promise)), True)


if __name__ == "__main__":
    unittest.main()
