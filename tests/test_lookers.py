"""Lookers [38], [39]: rows, tables and runs that show what they should, and such that do not."""

import unittest

from risingread.judge import Breaks, Holds, Verdict, broken_by, judge, why
from risingread.lookers import shows, shows_breaks, shows_holds, shows_least, shows_row
from risingread.patterns import patterns
from risingread.plans import Plan
from risingread.runs import play
from risingread.schemes import Scheme
from tests import whys
from tests.brute import middle_plans, small_plans
from tests.changes import changed
from tests.helper import Case, anything, plan_of, promises_of

PLAIN = plan_of(2, "strict", [1, 0], [1, 0])
R = ("n", (0, 1))
RUN = (({"n": (0, 9)}, {"n": (1, 0)}), ("look", "write", "look"))
ROWS = (((0, 0), ("sides", (("walk", ()), ("walk", ())))),
        ((0, 1), ("sides", (("walk", (("rise", 0, 0, 1),)), ("walk", ())))))
MIDDLE = plan_of(2, "strict", [0, 1, 1, 0], [3, 2, 1, 0], [(0, 3), (1, 2)])
M = ("n", (3, 2))
MARKED = Plan(Scheme([("m", 1, "strict"), ("n", 2, "weak")], [("m", 0), ("n", 1), ("n", 0), ("m", 0)]),
              [3, 2, 1, 0], [(0, 3)])


def no_tuples(thing):
    """The value with a list in the place of each tuple."""
    return [no_tuples(item) for item in thing] if isinstance(thing, (tuple, list)) else thing


def loose(thing):
    """The value with lists where the document lets them stand: for lists of steps and of parts."""
    if thing[0] == "sides":
        return "sides", [part[:-1] + (list(part[-1]),) for part in thing[1]]
    if thing[0] == "both":
        return "both", loose(thing[1]), loose(thing[2])
    return thing[:-1] + (list(thing[-1]),) if thing[0] in ("tests", "stood") else thing


class LookerCase(Case):

    def assert_shows(self, call, wanted, *passed):
        """Assert what the looker tells: True or False, and that it changes nothing."""
        before = repr(passed[1:])
        told = call(*passed)
        self.assertIs(told, wanted, passed[1:])
        self.assertEqual(repr(passed[1:]), before)


class TestRows(LookerCase):

    def test_what_the_judge_tells(self):
        for plan in small_plans()[::2] + middle_plans()[::2] + [MARKED]:
            for promise in promises_of(plan)[::2]:
                for pattern in patterns(plan):
                    reason = why(plan, pattern, promise)
                    if reason is None:
                        self.assert_shows(shows_row, False, plan, promise, pattern, reason)
                    else:
                        self.assert_shows(shows_row, True, plan, promise, pattern, reason)
                        self.assert_shows(shows_row, True, plan, promise, pattern, loose(reason))
                        self.assert_shows(shows_row, False, plan, promise, pattern, no_tuples(reason))

    def test_changed_rows_by_the_tests_own_rule(self):
        cases = [(PLAIN, ("above", R)), (MIDDLE, ("stood", M)), (MIDDLE, ("between", M)), (MIDDLE, ("below", M)),
                 (MIDDLE, ("order", M, ("n", (0, 1)))), (PLAIN, ("together", (0, 1))), (MARKED, ("together", (1, 2))),
                 (MARKED, ("below", ("n", (1, 2)))),
                 (plan_of(2, "strict", [0, 1], [0, 1, 1, 0], [(1, 2)]), ("order", ("n", (0, 1)), ("n", (3, 2))))]
        told = {True: 0, False: 0}
        for plan, promise in cases:
            known = list(patterns(plan))
            for pattern in known[::len(known) // 8 + 1]:
                reason = why(plan, pattern, promise)
                for other in changed(reason if reason is not None else ("sides", (("walk", ()), ("walk", ())))):
                    wanted = whys.show_row(plan, promise, pattern, other)
                    self.assert_shows(shows_row, wanted, plan, promise, pattern, other)
                    told[wanted] += 1
        # A step more that follows, and lists of steps that are lists, still show it.
        self.assertGreater(told[True], 100)
        self.assertGreater(told[False], 10000)

    def test_the_why_of_another_pattern_or_promise(self):
        for plan in (PLAIN, MIDDLE):
            rows = [(promise, pattern, why(plan, pattern, promise)) for promise in promises_of(plan)
                    for pattern in patterns(plan)]
            reasons = sorted({reason for _, _, reason in rows if reason is not None}, key=repr)
            for promise, pattern, _ in rows[::7]:
                for reason in reasons:
                    wanted = whys.show_row(plan, promise, pattern, reason)
                    self.assert_shows(shows_row, wanted, plan, promise, pattern, reason)

    def test_steps_more_and_steps_less(self):
        pattern, promise = (0, 0, 0, 1), ("stood", M)
        reason = why(MIDDLE, pattern, promise)
        self.assert_same(reason[1], 0)
        more = reason[:2] + (reason[2] + (("rise", 0, 0, 1), ("tie", 1, 0, 0), ("chain", 1, 0, 0, 0)),)
        self.assert_shows(shows_row, True, MIDDLE, promise, pattern, more)
        wrong = reason[:2] + (reason[2] + (("rise", 1, 0, 1), ("rise", 0, 1, 2)),)
        self.assert_shows(shows_row, False, MIDDLE, promise, pattern, wrong)
        # All that follows but one step that does not.
        for steps in [(("tie", 1, 0, 1),), (None,), ("rise",), ((),), (("chain", 0, 0, 0),)]:
            self.assert_shows(shows_row, False, MIDDLE, promise, pattern, reason[:2] + (reason[2] + steps,))

    def test_tests_of_a_number_that_is_not_strict(self):
        for kind in ("strict", "weak", "free"):
            plan = plan_of(1, kind, [0], [0, 0], [(0, 1)])
            steps = (("tie", 0, 0, 1), ("tie", 0, 1, 0))
            for promise in promises_of(plan):
                reason = ("tests", "n", 0, steps)
                self.assert_shows(shows_row, kind == "strict", plan, promise, (0, 1), reason)
            if kind != "free":
                sides = ("sides", (("tests", 0, steps),))
                self.assert_shows(shows_row, kind == "strict", plan, ("below", ("n", (1,))), (0, 1), sides)

    def test_tests_ahead_of_the_last_part_and_parts_behind_the_last_place(self):
        plan = plan_of(2, "strict", [0, 1], [0, 1, 0, 1], [(0, 2), (1, 3)])
        pattern, promise = (0, 0, 1, 1), ("above", ("n", (0, 1)))
        steps = (("tie", 0, 0, 1), ("tie", 0, 1, 0), ("tie", 1, 0, 1), ("tie", 1, 1, 0))
        walk, end = ("walk", steps), ("tests", 0, steps)
        for parts, wanted in [((end,), True), ((walk, end), True), ((walk, walk), True), ((walk,), False), ((), False),
                              ((end, walk), False), ((end, end), False), ((walk, walk, end), False),
                              ((walk, walk, walk), False)]:
            for sides in (parts, list(parts)):
                self.assert_shows(shows_row, wanted, plan, promise, pattern, ("sides", sides))

    def test_both_of_the_first_two_forms(self):
        for pattern in patterns(MIDDLE):
            halves = [why(MIDDLE, pattern, (word, M)) for word in ("below", "above")]
            self.assert_shows(shows_row, True, MIDDLE, ("between", M), pattern, ("both", halves[0], halves[1]))
            if halves[0][0] == "tests":
                sides = [("sides", (("tests", reason[2], reason[3]),)) for reason in halves]
                for one, two in [(sides[0], halves[1]), (halves[0], sides[1]), (sides[0], sides[1])]:
                    self.assert_shows(shows_row, True, MIDDLE, ("between", M), pattern, ("both", one, two))
                for one, two in [(halves[0], None), (None, halves[1]), (("one",), halves[1]),
                                 (("both", halves[0], halves[1]), halves[1]), (halves[0], ("stood", 0, ()))]:
                    self.assert_shows(shows_row, False, MIDDLE, ("between", M), pattern, ("both", one, two))

    def test_ties_count_in_the_lower_places_alone(self):
        plan = plan_of(2, "weak", [0, 1], [0, 1, 1])
        promise = ("order", ("n", (0, 1)), ("n", (0, 2)))
        tied = (("tie", 0, 0, 0),)
        self.assert_shows(shows_row, True, plan, promise, (0, 0, 0), ("sides", (("walk", ()), ("walk", tied))))
        self.assert_shows(shows_row, False, plan, promise, (0, 0, 0), ("sides", (("walk", tied), ("walk", ()))))

    def test_patterns(self):
        reason = ("sides", (("walk", (("rise", 0, 0, 1),)), ("walk", ())))
        self.assert_shows(shows_row, True, PLAIN, ("above", R), (0, 1), reason)
        for thing in anything() + [[0, 1], (0, True), (False, 1), (1, 0), (0, 2), (0, 1, 1), (0, "1"), (0, None)]:
            self.assert_shows(shows_row, False, PLAIN, ("above", R), thing, reason)
            self.assert_shows(shows_row, False, PLAIN, ("together", (0, 1)), thing, ("one",))

    def test_any_value_in_each_argument(self):
        reason = ("sides", (("walk", (("rise", 0, 0, 1),)), ("walk", ())))
        for thing in anything() + [R, ("above", ["n", (0, 1)]), ["above", R], ("above", ("n", (False, 1)))]:
            self.assert_shows(shows_row, False, PLAIN, thing, (0, 1), reason)
            self.assert_shows(shows_row, False, PLAIN, ("above", R), thing, reason)
            self.assert_shows(shows_row, False, PLAIN, ("above", R), (0, 1), thing)
            for other in anything():
                self.assert_shows(shows_row, False, PLAIN, thing, other, other)


class TestTables(LookerCase):

    def test_what_the_judge_tells(self):
        for plan in small_plans() + middle_plans() + [MARKED]:
            for promise in promises_of(plan)[::2]:
                verdict = judge(plan, promise)
                self.assert_shows(shows, True, verdict)
                if bool(verdict):
                    self.assert_shows(shows_holds, True, plan, promise, verdict.rows)
                    self.assert_shows(shows_holds, True, plan, promise, list(verdict.rows))
                    self.assert_shows(shows_holds, False, plan, promise, [list(row) for row in verdict.rows])
                else:
                    self.assert_shows(shows_breaks, True, plan, promise, verdict.run)
                    self.assert_shows(shows_holds, False, plan, promise, ())

    def test_the_documents_example(self):
        self.assert_shows(shows_holds, True, PLAIN, ("above", R), ROWS)
        self.assert_shows(shows_holds, False, PLAIN, ("above", R), ROWS[:1])
        self.assert_shows(shows_holds, False, PLAIN, ("below", R), ROWS)

    def test_patterns_left_out_exchanged_and_put_twice(self):
        for plan, promise in [(PLAIN, ("above", R)), (MIDDLE, ("stood", M)), (MARKED, ("together", (1, 2)))]:
            rows = judge(plan, promise).rows
            for at in range(len(rows)):
                self.assert_shows(shows_holds, False, plan, promise, rows[:at] + rows[at + 1:])
                self.assert_shows(shows_holds, False, plan, promise, rows[:at] + rows[at:at + 1] + rows[at:])
                self.assert_shows(shows_holds, False, plan, promise, rows[:at] + (None,) + rows[at:])
                self.assert_shows(shows_holds, False, plan, promise, rows[:at] + (rows[at][:1],) + rows[at + 1:])
                self.assert_shows(shows_holds, False, plan, promise, rows[:at] + (rows[at] + (0,),) + rows[at + 1:])
                for other in range(at):
                    turned = list(rows)
                    turned[at], turned[other] = rows[other], rows[at]
                    self.assert_shows(shows_holds, False, plan, promise, turned)
                    twice = list(rows)
                    twice[at] = rows[other]
                    self.assert_shows(shows_holds, False, plan, promise, twice)

    def test_changed_tables(self):
        for table in changed(ROWS):
            wanted = isinstance(table, (tuple, list)) and [row[:1] for row in table if isinstance(row, tuple)] == [
                ((0, 0),), ((0, 1),)] and len(table) == 2 and all(
                len(row) == 2 and repr(row[0]) in ("(0, 0)", "(0, 1)")
                and whys.show_row(PLAIN, ("above", R), row[0], row[1]) for row in table)
            self.assert_shows(shows_holds, wanted, PLAIN, ("above", R), table)

    def test_any_value_in_each_argument(self):
        for thing in anything():
            self.assert_shows(shows_holds, False, PLAIN, ("above", R), thing)
            self.assert_shows(shows_holds, False, PLAIN, thing, ROWS)
            self.assert_shows(shows_holds, False, PLAIN, thing, thing)
            self.assert_shows(shows_least, False, PLAIN, ("below", R), thing, ROWS[:1])
            self.assert_shows(shows_least, False, PLAIN, thing, RUN, ROWS[:1])
            self.assert_shows(shows_least, False, PLAIN, ("below", R), RUN, thing)
            self.assert_shows(shows_breaks, False, PLAIN, thing, RUN)
            self.assert_shows(shows_breaks, False, PLAIN, ("below", R), thing)


class TestRuns(LookerCase):

    def test_runs_that_break_and_runs_that_do_not(self):
        self.assert_shows(shows_breaks, True, PLAIN, ("below", R), RUN)
        self.assert_shows(shows_breaks, True, PLAIN, ("below", R), [list(RUN[0]), list(RUN[1])])
        self.assert_shows(shows_breaks, False, PLAIN, ("above", R), RUN)
        self.assert_shows(shows_breaks, True, PLAIN, ("stood", R), RUN)
        self.assert_shows(shows_breaks, True, PLAIN, ("together", (0, 1)), RUN)
        self.assert_shows(shows_breaks, False, PLAIN, ("order", R, R), RUN)
        whole = (RUN[0], ("look", "look"))
        for promise in promises_of(PLAIN):
            self.assert_shows(shows_breaks, False, PLAIN, promise, whole)

    def test_an_attempt_that_does_not_pass_breaks_nothing(self):
        tested = plan_of(1, "strict", [0], [0, 0], [(0, 1)])
        run = (({"n": (0,)}, {"n": (1,)}), ("look", "write", "look"))
        untested = plan_of(1, "strict", [0], [0, 0])
        for promise in [("together", (0, 1)), ("order", ("n", (1,)), ("n", (0,)))]:
            self.assert_shows(shows_breaks, True, untested, promise, run)
            self.assert_shows(shows_breaks, False, tested, promise, run)

    def test_what_is_no_run(self):
        versions, events = RUN
        for run in [(versions,), (versions, events, ()), (events, versions), ((), events), (versions, ()),
                    (versions, events[:2]), (versions, events + ("look",)), (versions, ("look", "walk", "look")),
                    (versions[:1], events), (versions[::-1], events), (versions, ("write",) * 3 + events),
                    (({"n": (0, 9)}, {"n": (1,)}), events), (({"n": (0, 9)}, {"n": [1, 0]}), events),
                    (({"n": (0, 9)}, {"n": (True, 0)}), events), (({"n": (0, 9)}, {"m": (1, 0)}), events),
                    (({"n": (0, 9)}, {"n": (1, -1)}), events), ({0: versions}, events), "run"]:
            self.assert_shows(shows_breaks, False, PLAIN, ("below", R), run)
            self.assert_shows(shows_least, False, PLAIN, ("below", R), run, ROWS[:1])

    def test_each_change_of_a_run(self):
        for run in changed((RUN[0], RUN[1])):
            wanted = False
            try:
                wanted = play(PLAIN, run).breaks(("below", R))
            except ValueError:
                pass
            self.assert_shows(shows_breaks, wanted, PLAIN, ("below", R), run)

    def test_of_another_plan(self):
        for plan in small_plans()[:13]:
            for promise in promises_of(plan):
                for pattern in patterns(plan):
                    run = broken_by(plan, pattern, promise)
                    if run is not None:
                        self.assert_shows(shows_breaks, True, plan, promise, run)
                        self.assert_shows(shows_breaks, False, plan, promise, (run[0], run[1] + ("look",)))


class TestLeast(LookerCase):

    def test_tables_up_to_two_below_the_versions(self):
        for plan in small_plans() + middle_plans():
            known = list(patterns(plan))
            for promise in promises_of(plan)[::2]:
                verdict = judge(plan, promise)
                if not bool(verdict):
                    rows = tuple((pattern, why(plan, pattern, promise)) for pattern in known
                                 if max(pattern) <= verdict.length - 2)
                    self.assert_shows(shows_least, True, plan, promise, verdict.run, rows)
                    self.assert_shows(shows_least, True, plan, promise, verdict.run, list(rows))
                    if rows:
                        self.assert_shows(shows_least, False, plan, promise, verdict.run, rows[:-1])
                        self.assert_shows(shows_least, False, plan, promise, verdict.run, rows[1:])
                        self.assert_shows(shows_least, False, plan, promise, verdict.run, rows + rows[-1:])
                    more = rows + ((known[len(rows)], ("one",)),)
                    self.assert_shows(shows_least, False, plan, promise, verdict.run, more)

    def test_runs_with_one_version_more(self):
        run = (RUN[0] + ({"n": (2, 2)},), RUN[1])
        self.assert_shows(shows_least, True, PLAIN, ("below", R), RUN, ROWS[:1])
        self.assert_shows(shows_least, False, PLAIN, ("below", R), run, ROWS[:1])
        self.assert_shows(shows_least, False, PLAIN, ("below", R), run, ROWS)
        self.assert_shows(shows_least, False, PLAIN, ("below", R), RUN, ROWS)
        self.assert_shows(shows_least, False, PLAIN, ("below", R), RUN, ())
        self.assert_shows(shows_least, False, PLAIN, ("above", R), RUN, ROWS[:1])

    def test_three_versions(self):
        # No run with two versions breaks it, one with three does.
        plan = plan_of(1, "strict", [0], [0, 0, 0], [])
        promise = ("together", (0, 1, 2))
        self.assert_same(judge(plan, promise).length, 2)
        found = []
        for plan in small_plans() + middle_plans():
            for promise in promises_of(plan):
                verdict = judge(plan, promise)
                if verdict.length is not None and verdict.length > 2:
                    rows = [(pattern, why(plan, pattern, promise)) for pattern in patterns(plan)
                            if max(pattern) <= verdict.length - 2]
                    self.assert_shows(shows_least, True, plan, promise, verdict.run, rows)
                    for at in range(len(rows)):
                        wrong = rows[:at] + [(rows[at][0], None)] + rows[at + 1:]
                        self.assert_shows(shows_least, False, plan, promise, verdict.run, wrong)
                    found.append(verdict.length)
        self.assertIn(3, found)


class TestShows(LookerCase):

    def test_made_by_hand(self):
        self.assert_shows(shows, True, Holds(PLAIN, ("above", R), ROWS))
        self.assert_shows(shows, True, Holds(PLAIN, ("above", R), list(ROWS)))
        self.assert_shows(shows, False, Holds(PLAIN, ("below", R), ROWS))
        self.assert_shows(shows, False, Holds(PLAIN, ("above", R), ROWS[:1]))
        self.assert_shows(shows, False, Holds(MIDDLE, ("above", R), ROWS))
        self.assert_shows(shows, True, Breaks(PLAIN, ("below", R), (0, 1), RUN))
        self.assert_shows(shows, False, Breaks(PLAIN, ("above", R), (0, 1), RUN))
        self.assert_shows(shows, False, Breaks(MIDDLE, ("below", R), (0, 1), RUN))
        # The run alone is looked at.
        self.assert_shows(shows, True, Breaks(PLAIN, ("below", R), (0, 0), RUN))

    def test_made_of_anything(self):
        for thing in anything():
            self.assert_shows(shows, False, Holds(PLAIN, thing, thing))
            self.assert_shows(shows, False, Holds(PLAIN, ("above", R), thing))
            self.assert_shows(shows, False, Breaks(PLAIN, ("below", R), thing, thing))
            self.assert_shows(shows, False, Breaks(PLAIN, thing, (0, 1), RUN))
            self.assert_shows(shows, False, Holds(thing, ("above", R), ROWS))
            self.assert_shows(shows, False, Breaks(thing, ("below", R), (0, 1), RUN))

    def test_any_other_value(self):
        for thing in anything() + [ROWS, RUN, PLAIN, R, Verdict(PLAIN, ("above", R)), play(PLAIN, RUN)]:
            self.assert_shows(shows, False, thing)


if __name__ == "__main__":
    unittest.main()
