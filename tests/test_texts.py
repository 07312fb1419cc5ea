"""Texts of plans, promises and runs [48] to [50], and the lines of tables."""

import itertools
import unittest

from risingread.errors import BadText, NoPlan, NoScheme
from risingread.judge import judge
from risingread.lookers import shows_holds
from risingread.plans import Plan
from risingread.schemes import Scheme
from risingread.texts import read_plan, read_promise, read_run, show_plan, show_promise, show_run, table
from tests import forms
from tests.brute import middle_plans, small_plans
from tests.helper import Case, anything, plan_of, promises_of

WORDS = Plan(Scheme([("numbers", 2, "weak"), ("none", 1, "strict"), ("looks", 1, "free")],
                    [("none", 0), ("numbers", 1), ("looks", 0), ("numbers", 0), ("none", 0)]),
             [4, 3, 2, 1, 0], [(0, 4)])
PLANS = small_plans() + middle_plans() + [WORDS, Plan.layout("abcdefghijkl", 4, 1)[1]]
RUNS = [
    (({"n": (0, 9)}, {"n": (1, 0)}), ("look", "write", "look")),
    (({"n": (0,)},), ("look",)),
    (({"d": (4,), "n": (0, 9)}, {"n": (1, 0), "d": (4,)}, {"n": (1, 1), "d": (5,)}), ("write", "look", "write")),
    (({"write": (10 ** 59, 0, 10 ** 60 - 1, 7), "events": (0,), "version": (1,), "look": (2,)},), ("write",)),
]


class TestPlans(Case):

    def test_show(self):
        self.assert_same(show_plan(WORDS), "numbers numbers 2 weak none 1 strict looks 1 free\n"
                         "cells none 0 numbers 1 looks 0 numbers 0 none 0\nlooks 4 3 2 1 0\ntests 0 4")
        scheme = Scheme([("n", 2, "strict"), ("d", 1, "free")], [("n", 0), ("d", 0), ("n", 1)])
        plan = Plan(scheme, [2, 1, 0, 2, 1], [(0, 3), (1, 4)])
        self.assert_same(show_plan(plan), "numbers n 2 strict d 1 free\ncells n 0 d 0 n 1\nlooks 2 1 0 2 1\ntests 0 3 1 4")
        self.assert_same(show_plan(plan_of(1, "free", [0], [0])), "numbers n 1 free\ncells n 0\nlooks 0\ntests none")

    def test_read_back(self):
        for plan in PLANS:
            told = read_plan(show_plan(plan))
            self.assertIs(told.__class__, Plan)
            self.assertEqual(told, plan)
            self.assert_same(show_plan(told), show_plan(plan))
            self.assert_same([told.looks, told.tests, told.scheme.cells, told.scheme.numbers],
                             [plan.looks, plan.tests, plan.scheme.cells, plan.scheme.numbers])

    def test_a_name_that_is_none(self):
        plan = plan_of(1, "weak", [0], [0, 0], [(0, 1)])
        for name in ("none", "tests", "numbers", "cells", "looks", "against", "order", "strict"):
            renamed = Plan(plan.scheme.renamed({"n": name}), [0, 0], [(0, 1)])
            self.assertEqual(read_plan(show_plan(renamed)), renamed)

    def test_what_is_of_the_form_but_no_scheme_or_plan(self):
        cases = [
            ("numbers n 5 strict\ncells n 0\nlooks 0\ntests none", NoScheme, ["numbers", 0]),
            ("numbers n 0 strict\ncells n 0\nlooks 0\ntests none", NoScheme, ["numbers", 0]),
            ("numbers n 1 weak n 1 weak\ncells x 0\nlooks 0\ntests none", NoScheme, ["numbers", 1]),
            ("numbers a 1 weak b 1 weak c 1 weak d 1 weak\ncells x 0\nlooks 9\ntests 1 0", NoScheme, ["numbers", 3]),
            ("numbers n 2 weak\ncells n 1\nlooks 9\ntests none", NoScheme, ["cells", None]),
            ("numbers n 2 weak\ncells n 1 n 2\nlooks 9\ntests none", NoScheme, ["cells", 1]),
            ("numbers n 1 weak\ncells" + " n 0" * 9 + "\nlooks 99\ntests 1 0", NoScheme, ["cells", 8]),
            ("numbers n 1 weak\ncells n 0\nlooks 0 1\ntests 1 0", NoPlan, ["looks", 1]),
            ("numbers n 1 weak\ncells n 0\nlooks 0 0 0 0 0 0 0 0 0\ntests none", NoPlan, ["looks", 8]),
            ("numbers n 1 weak\ncells n 0\nlooks 0 0\ntests 0 1 1 0", NoPlan, ["tests", 1]),
            ("numbers n 1 weak\ncells n 0\nlooks 0 0\ntests 0 1 0 1", NoPlan, ["tests", 1]),
            ("numbers n 1 weak\ncells n 0\nlooks 0\ntests 0 99", NoPlan, ["tests", 0]),
        ]
        for text, error, fields in cases:
            self.assert_raises(error, fields, read_plan, text)
            # What is no text of the form is told ahead.
            self.assert_raises(BadText, [4, 0], read_plan, text + "\n")

    def test_first_errors(self):
        for text, line, word in [
            ("numbers n 2\ncells n 0", 0, 3), ("numbers", 0, 1), ("numbers n", 0, 2), ("numbers n 2 strict", 1, 0),
            ("numbers n 2 strict\ncells n 0", 2, 0), ("numbers n 2 strict\ncells n 0\nlooks 0", 3, 0),
            ("numbers n 2 strict\ncells n", 1, 2), ("numbers n 2 strict\ncells\nlooks", 1, 1),
            ("numbers n 2 strict\ncells n 0\nlooks\ntests none", 2, 1),
            ("numbers n 2 strict\ncells n 0\nlooks 0\ntests", 3, 1),
            ("numbers n 2 strict\ncells n 0\nlooks 0\ntests 0", 3, 2),
            ("numbers n 2 strict\ncells n 0\nlooks 0\ntests 0 1 2", 3, 4),
            ("numbers n 2 strict\ncells n 0\nlooks 0\ntests none none", 3, 2),
            ("numbers n 2 strict\ncells n 0\nlooks 0\ntests none 0 1", 3, 2),
            ("numbers n 2 strict\ncells n 0\nlooks 0\ntests none ", 3, 2),
            ("numbers n 2 strict\ncells n 0\nlooks 0\ntests 0 1 none", 3, 3),
            ("numbers n 2 strict\ncells n 0\nlooks 0\ntests none\n", 4, 0),
            ("numbers n 2 strict\ncells n 0\nlooks 0\ntests none\nmore", 4, 0),
            ("numbers n 2 strict n\ncells", 0, 5), ("numbers n 002 strict", 0, 2), ("numbers n 2  strict", 0, 3),
            (" numbers n 2 strict", 0, 0), ("Numbers n 2 strict", 0, 0), ("cells n 0", 0, 0), ("", 0, 0), (" ", 0, 0),
            ("\n", 0, 0), ("numbers n 2 strict \ncells", 0, 4), ("numbers n 2 strict\n\ncells n 0", 1, 0),
        ]:
            self.assert_raises(BadText, [line, word], read_plan, text)
            self.assertEqual(forms.first_bad("plan", text), (line, word))


class TestPromises(Case):

    def test_show_and_read_back(self):
        for plan in PLANS:
            for promise in promises_of(plan):
                text = show_promise(promise)
                self.assertNotIn("\n", text)
                self.assert_same(read_promise(text), promise)

    def test_show(self):
        n = ("n", (0, 1))
        for word in ("below", "above", "between", "stood"):
            self.assert_same(show_promise((word, n)), word + " n 0 1")
        self.assert_same(show_promise(("order", n, ("n", (2, 3)))), "order n 0 1 against 2 3")
        self.assert_same(show_promise(("together", (0, 2))), "together 0 2")
        self.assert_same(show_promise(("together", (0, 2, 7))), "together 0 2 7")

    def test_names_that_are_words(self):
        for name in ("against", "order", "together", "none", "below"):
            for promise in [("below", (name, (0,))), ("order", (name, (0,)), (name, (1,))),
                            ("order", (name, (3, 0)), (name, (1, 2)))]:
                self.assert_same(read_promise(show_promise(promise)), promise)
        self.assert_same(read_promise("order against 0 against 1"), ("order", ("against", (0,)), ("against", (1,))))

    def test_it_is_not_asked_whether_it_is_one_of_a_plan(self):
        self.assert_same(read_promise("together 3 3 1 99"), ("together", (3, 3, 1, 99)))
        self.assert_same(read_promise("below x 9 9 9 9 9"), ("below", ("x", (9,) * 5)))
        self.assert_same(read_promise("order n 0 against 1 2"), ("order", ("n", (0,)), ("n", (1, 2))))
        self.assert_same(show_promise(("together", (3, 1))), "together 3 1")

    def test_first_errors(self):
        for text, line, word in [
            ("below", 0, 1), ("below n", 0, 2), ("below n x", 0, 2), ("below n 0 x", 0, 3), ("below n 0 ", 0, 3),
            ("below 0 1", 0, 1), ("below  n 0", 0, 1), ("together", 0, 1), ("together 0", 0, 2), ("together n 0", 0, 1),
            ("together 0 n", 0, 2), ("together 0 1 100", 0, 3), ("order n 0 1", 0, 4), ("order n", 0, 2),
            ("order n against 2", 0, 2), ("order n 0 against", 0, 4), ("order n 0 against against 1", 0, 4),
            ("order n 0 against 1 against 2", 0, 5), ("order n 0 against n 1", 0, 4), ("order n 0 x against 1", 0, 3),
            ("order against against 1", 0, 2), ("order", 0, 1), ("order N 0 against 1", 0, 1),
            ("against n 0", 0, 0), ("", 0, 0), ("below n 0\n", 1, 0), ("below n 0\nbelow n 0", 1, 0),
            ("below n 0 \n", 0, 3), ("order n 0 against 1 \n", 0, 5), ("order n 0 against 1\n", 1, 0), ("order n 0\n", 0, 3),
            ("below n 00", 0, 2), ("below n 01", 0, 2), ("below n -1", 0, 2), ("below n 100", 0, 2),
        ]:
            self.assert_raises(BadText, [line, word], read_promise, text)
            self.assertEqual(forms.first_bad("promise", text), (line, word))


class TestRuns(Case):

    def test_show_and_read_back(self):
        for run in RUNS:
            self.assert_same(read_run(show_run(run)), tuple(
                [tuple({name: version[name] for name in sorted(version)} for version in run[0]), run[1]]))
            lists = ([{name: list(digits) for name, digits in version.items()} for version in run[0]], list(run[1]))
            self.assert_same(show_run(lists), show_run(run))
            self.assertEqual(read_run(show_run(lists)), run)
        for plan in small_plans() + middle_plans():
            for promise in promises_of(plan)[::3]:
                verdict = judge(plan, promise)
                if not bool(verdict):
                    self.assertEqual(read_run(show_run(verdict.run)), verdict.run)

    def test_show(self):
        self.assert_same(show_run(RUNS[0]), "version n 0.9\nversion n 1.0\nevents look write look")
        self.assert_same(show_run(RUNS[2]), "version d 4 n 0.9\nversion d 4 n 1.0\nversion d 5 n 1.1\nevents write look write")
        self.assert_same(show_run(RUNS[3]).split("\n")[0].split(" ")[1::2], ["events", "look", "version", "write"])

    def test_it_is_not_asked_whether_it_is_one_of_a_plan(self):
        self.assertEqual(read_run("version n 9\nversion d 0.1.2.3.4.5\nevents look"),
                         (({"n": (9,)}, {"d": (0, 1, 2, 3, 4, 5)}), ("look",)))

    def test_sixty_figures(self):
        digit = 10 ** 60 - 1
        run = (({"n": (digit, 10 ** 59)},), ("look",))
        self.assert_same(read_run(show_run(run)), run)
        self.assert_raises(BadText, [0, 2], read_run, show_run((({"n": (digit + 1, 0)},), ("look",))))
        self.assert_raises(BadText, [0, 2], read_run, show_run((({"n": (0, digit + 1)},), ("look",))))

    def test_first_errors(self):
        for text, line, word in [
            ("version n 0.9\nevents look walk", 1, 2), ("version n 0.9", 1, 0), ("version n 0.9\nversion n 1.0", 2, 0),
            ("version", 0, 1), ("version n", 0, 2),
            ("version d 0 n", 0, 4), ("version n 0 d", 0, 3), ("version n 0 d 1\nevents look", 0, 3),
            ("version n 0 n 1\nevents look", 0, 3), ("version d 1 n 0\nevents look\n", 2, 0), ("events look", 0, 0),
            ("version n 0\nevents", 1, 1), ("version n 0\nevents look\nversion n 1", 2, 0), ("", 0, 0),
            ("version n 0\nevents look\nevents look", 2, 0), ("version n 0\nlook", 1, 0), ("version n 0.\nevents look", 0, 2),
            ("version n 00\nevents look", 0, 2), ("version n 0.01\nevents look", 0, 2), ("version n .0\nevents look", 0, 2),
            ("version n 0 d x\nevents look", 0, 3), ("version a 0 d x\nevents look", 0, 4), ("version n -1\nevents look", 0, 2),
            ("version n 0\nevents look ", 1, 2), ("version n 0 \nevents look", 0, 3), ("version n 0\n\nevents look", 1, 0),
            ("version N 0\nevents look", 0, 1), ("version n 0\n", 1, 0), ("version n 0\nversion", 1, 1),
        ]:
            self.assert_raises(BadText, [line, word], read_run, text)
            self.assertEqual(forms.first_bad("run", text), (line, word))

    def test_new_dicts(self):
        text = show_run(RUNS[0])
        one, other = read_run(text), read_run(text)
        self.assertIsNot(one[0][0], other[0][0])
        one[0][0].clear()
        self.assertEqual(read_run(text), other)


class TestBadTexts(Case):

    def assert_bad(self, kind, read, text):
        """Assert that the text is bad where the tests' own rule says so, and return whether it is."""
        wanted = forms.first_bad(kind, text)
        if wanted is not None:
            self.assert_raises(BadText, list(wanted), read, text)
            return True
        try:
            read(text)
        except (NoScheme, NoPlan):
            self.assertEqual(kind, "plan")
        return False

    def test_each_change_of_a_plan(self):
        told = []
        for plan in [WORDS, PLANS[2], PLANS[4], middle_plans()[1]]:
            told.extend(self.assert_bad("plan", read_plan, text) for text in forms.changes(show_plan(plan)))
        self.assertGreater(told.count(True), 1000)
        self.assertGreater(told.count(False), 100)

    def test_each_change_of_a_promise(self):
        told = []
        for promise in [("below", ("n", (0, 1))), ("stood", ("against", (3,))), ("together", (0, 2, 3)),
                        ("order", ("n", (0, 1)), ("n", (2, 3))), ("order", ("against", (0,)), ("against", (12,)))]:
            told.extend(self.assert_bad("promise", read_promise, text) for text in forms.changes(show_promise(promise)))
        self.assertGreater(told.count(True), 500)
        self.assertGreater(told.count(False), 50)

    def test_each_change_of_a_run(self):
        told = []
        for run in RUNS:
            told.extend(self.assert_bad("run", read_run, text) for text in forms.changes(show_run(run)))
        self.assertGreater(told.count(True), 1000)
        self.assertGreater(told.count(False), 100)

    def test_each_beginning(self):
        for kind, read, text in [("plan", read_plan, show_plan(WORDS)), ("run", read_run, show_run(RUNS[2])),
                                 ("promise", read_promise, "order n 0 1 against 2 3")]:
            for end in range(len(text)):
                self.assert_bad(kind, read, text[:end])

    def test_what_is_no_string(self):
        for read in (read_plan, read_promise, read_run):
            for thing in anything() + [["numbers"], ("below n 0",), {"below": 0}, [["below", "n", "0"]]]:
                if not isinstance(thing, str):
                    self.assert_raises(BadText, [0, 0], read, thing)
            for text in ("", " ", "\n", "\n\n", "  "):
                self.assert_raises(BadText, [0, 0], read, text)


class TestTables(Case):

    def test_columns(self):
        steps = [("rise", 0, 0, 1)] * 12
        cases = [
            ((0,), ("one",), "   0 0               one      0"),
            ((0, 1, 2, 3, 4, 5, 6, 7), ("tests", "n", 0, steps), "   1 0.1.2.3.4.5.6.7 tests   12"),
            ((0, 0), ("sides", (("walk", steps), ("tests", 0, steps[:3]))), "   2 0.0             sides   15"),
            ((0, 1, 1), ("stood", 1, tuple(steps)), "   3 0.1.1           stood   12"),
            ((1, 0), ("both", ("sides", [("walk", steps[:1]), ("walk", ())]), ("tests", "n", 0, steps)),
             "   4 1.0             both    13"),
            ((1, 0), ("both", ("tests", "n", 0, steps[:2]), ("sides", [("tests", 0, steps[:5])])),
             "   5 1.0             both     7"),
            ((0, 0), ("sides", ()), "   6 0.0             sides    0"),
        ]
        rows = [(pattern, reason) for pattern, reason, _ in cases]
        lines = [line for _, _, line in cases]
        self.assert_same(table(rows), lines)
        self.assert_same(table(tuple(rows)), lines)
        self.assert_same([table([]), table(())], [[], []])

    def test_numbers_of_rows(self):
        lines = table([((0, 1), ("one",))] * 1234)
        for number, line in enumerate(lines):
            self.assert_same(line, str(number).rjust(4) + " 0.1             one      0")

    def test_many_steps(self):
        self.assert_same(table([((0,), ("stood", 0, [0] * 1234))]), ["   0 0               stood 1234"])

    def test_tables_of_the_judge(self):
        for plan in small_plans()[::3] + middle_plans()[::2]:
            for promise in promises_of(plan)[::3]:
                verdict = judge(plan, promise)
                if bool(verdict):
                    lines = table(verdict.rows)
                    self.assertEqual(len(lines), len(verdict.rows))
                    for number, (line, (pattern, reason)) in enumerate(zip(lines, verdict.rows)):
                        self.assertEqual(line.split(), [str(number), ".".join(map(str, pattern)), reason[0],
                                                        str(repr(reason).count("'tie'") + repr(reason).count("'rise'")
                                                            + repr(reason).count("'chain'"))])
                        self.assertEqual(len(line), 31)
                    self.assert_same(table(list(verdict.rows)), lines)

    def test_rows_that_show_nothing(self):
        plan = plan_of(2, "strict", [1, 0], [1, 0])
        rows = [((9, 9), ("stood", 99, [None, None]))]
        self.assertIs(shows_holds(plan, ("above", ("n", (0, 1))), rows), False)
        self.assert_same(table(rows), ["   0 9.9             stood    2"])

    def test_new_lists(self):
        rows = judge(plan_of(2, "strict", [1, 0], [1, 0]), ("above", ("n", (0, 1)))).rows
        self.assert_stays(table, list(rows))


class TestAllTexts(Case):

    def test_the_same_again(self):
        for plan, promise in itertools.islice(((plan, promise) for plan in PLANS for promise in promises_of(plan)), 0, None, 40):
            self.assert_stays(show_plan, plan)
            self.assert_stays(show_promise, promise)
            self.assertEqual(read_plan(show_plan(plan)), read_plan(show_plan(plan)))
        for run in RUNS:
            self.assert_stays(show_run, run)
            self.assert_stays(read_run, show_run(run))


if __name__ == "__main__":
    unittest.main()
