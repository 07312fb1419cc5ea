"""The examples of the document's interface, word for word."""

import unittest

from risingread import errors
from risingread.bases import first_fall, turned_versions
from risingread.boards import Board
from risingread.derived import shown
from risingread.desk import Desk
from risingread.fewest import fewest_looks, torn
from risingread.forced import Forced
from risingread.handed import never_back
from risingread.judge import broken_by, judge, kept, why
from risingread.lookers import shows_breaks, shows_holds, shows_least
from risingread.marks import Marks
from risingread.numerals import Numeral, carry, numerals_from
from risingread.orders import gaps, mend, rewritten, right_readings, right_writings, sure
from risingread.patterns import how_many, pattern_of, patterns
from risingread.plans import Plan
from risingread.readers import Reader
from risingread.runs import play
from risingread.schemes import Scheme
from risingread.texts import read_plan, read_promise, read_run, show_plan, show_promise, show_run, table
from risingread.weavings import Weaving, weaving_of, weavings_of
from tests.helper import Case

NUMERALS = """
>>> n = Numeral((1, 0, 9), (2, 10, 10))
>>> [n.value, str(n + 1), carry(n), str(~n), str(-n)]
[109, '1.1.0/2.10.10', [2, 1], '0.9.0/2.10.10', '1.0.1/2.10.10']
>>> m = Numeral([0, 1, 2], (2, 10, 10))
>>> [str(m << 1), str(n ^ m), str(n // 2), n.changed(m), n.first_change(m), m < n]
['1.2.0/2.10.10', '1.1.1/2.10.10', '0.5.4/2.10.10', [0, 1, 2], 0, True]
>>> n << 1
raises Overflow(109)
>>> 3 * Numeral.of(40, (10, 10))
raises Overflow(120)
>>> Numeral.read("1.0.9/2.10")
raises NoText(10)
>>> Numeral.read("1.0.10/2.10.10")
raises NoNumeral(2)
>>> [str(x) for x in numerals_from(Numeral.of(9, (3, 10)), Numeral.of(11, (3, 10)))]
['0.9/3.10', '1.0/3.10', '1.1/3.10']
>>> first_fall("strict", [(0, 9), (1, 0), (1, 0)])
2
>>> turned_versions([(0, 9), (1, 0)], (2, 10))
[(0, 9), (1, 0)]
"""

PLANS = """
>>> scheme, plan = Plan.layout("n", 2, 1)
>>> (scheme.cells, plan.looks, plan.tests)
((('n', 0), ('n', 1), ('n', 0)), (2, 1, 0), ((0, 2),))
>>> plan.is_promise(("stood", ("n", (0, 1))))
True
>>> plan.mirror().looks
(2, 1, 0)
>>> scheme, plan = Plan.layout("n", 3, 0)
>>> ([place for name, place in scheme.cells], plan.looks, plan.tests)
([2, 1, 0, 1, 2], (2, 1, 0, 4, 3, 2), ((0, 5), (1, 4), (2, 3)))
>>> Scheme([("n", 2, "strict")], [("n", 0)])
raises NoScheme("cells", None)
"""

# The scheme is the last one of the plans' examples.
BOARDS = """
>>> board = Board(scheme, {"n": (10, 10, 10)}, {"n": (0, 0, 9)})
>>> board.begin({"n": (0, 1, 0)})
>>> (board.step(), board.content, board.coming, board.version)
(0, (0, 0, 0, 0, 9), 1, 1)
>>> board.finish()
4
>>> row = board.row("n", [2, 1, 0])
>>> row += 90
>>> (board.content, board.version)
((0, 0, 1, 0, 0), 2)
>>> board.begin({"n": (0, 9, 9)})
raises Fallen("n", 0)
"""

READERS = """
>>> scheme, plan = Plan.layout("n", 2, 1)
>>> board = Board(scheme, {"n": (10, 10)}, {"n": (0, 9)})
>>> reader = Reader(plan)
>>> [reader(board), board.begin({"n": (1, 0)}), board.step(), reader(board), reader(board)]
[0, None, 0, 9, 1]
>>> (reader.so_far, reader.sights, reader.passed)
((0, 9, 1), (0, 0, 1), False)
>>> reader(board)
raises Spent
>>> [board.finish(), reader.restart(), reader(board), reader(board), reader.left]
[2, None, 1, 0, 1]
>>> reader.answer(("n", (0, 1)))
raises Unheard(1)
>>> [reader(board), reader.passed, reader.answer(("n", (0, 1)))]
[1, True, (1, 0)]
>>> plain = Plan(Scheme([("n", 2, "strict")], [("n", 1), ("n", 0)]), [1, 0], [])
>>> run = (({"n": (0, 9)}, {"n": (1, 0)}), ("look", "write", "look"))
>>> told = play(plain, run)
>>> (told.heard, told.seen, told.before, told.after, told.passes)
((0, 0), (0, 1), 0, 1, True)
>>> R = ("n", (0, 1))
>>> [told.tells(("above", R)), told.tells(("below", R)), told.breaks(("below", R))]
[True, False, True]
>>> play(plain, (run[0], ("look", "write", "write", "write", "look")))
raises BadRun("events", 3)
"""

WEAVINGS = """
>>> scheme = Scheme([("n", 2, "strict")], [("n", 0), ("n", 1)])
>>> plan = Plan(scheme, [0, 1, 0], [])
>>> [list(patterns(plan)), how_many(plan)]
[[(0, 0, 0), (0, 0, 1), (0, 1, 1), (1, 0, 1), (0, 1, 2), (1, 0, 2)], [1, 3, 2]]
>>> [pattern_of(plan, (5, 4, 9)), weaving_of(plan, (1, 0, 2))]
[(1, 0, 2), ('write', 'look', 'look', 'write', 'write', 'look')]
>>> pattern_of(plan, (5, 3, 9))
raises NotSeen(0, 1)
>>> [weaving.moments for weaving in weavings_of(plan, (1, 0, 2))]
[(1, 1, 3), (1, 1, 4)]
>>> (2 + Weaving(plan, 1, 1, 3)).ages
(3, 2, 4)
"""

# The plan and the run are those of the readers' examples.
LOOKERS = """
>>> rows = (((0, 0), ("sides", (("walk", ()), ("walk", ())))), ((0, 1), ("sides", (("walk", (("rise", 0, 0, 1),)), ("walk", ())))))
>>> [shows_holds(plain, ("above", R), rows), shows_holds(plain, ("above", R), rows[:1]), shows_holds(plain, ("below", R), rows)]
[True, False, False]
>>> [shows_breaks(plain, ("below", R), run), shows_breaks(plain, ("above", R), run), shows_least(plain, ("below", R), run, rows[:1])]
[True, False, True]
"""

ORDERS = """
>>> plain = Scheme([("n", 2, "strict")], [("n", 0), ("n", 1)])
>>> plan = Plan(plain, [0, 1], [])
>>> (gaps(plan), sure(plan))
([(0, 1)], [])
>>> above = ("above", ("n", (0, 1)))
>>> right_writings(plan, above)
[(1, 0)]
>>> right_readings(plan, above)
[]
>>> mend(plan, above)
(1, (1, 0))
>>> right_readings(rewritten(plan, (1, 0)), above)
[(0, 1)]
>>> mend(plan, ("stood", ("n", (0, 1))))
None
"""

FEWEST = """
>>> found = torn(Scheme([("n", 2, "strict")], [("n", 1), ("n", 0)]), "n")
>>> (found.versions, found.moment, found.digits)
(({'n': (0, 1)}, {'n': (1, 0)}), 1, (0, 0))
>>> scheme, plan = Plan.layout("n", 2, 1)
>>> found = fewest_looks(scheme, "n", "stood", 3)
>>> (torn(scheme, "n"), found.looks, len(found.broken))
(None, (2, 1, 0), 12)
"""

MARKS = """
>>> numbers = [("m", 1, "free"), ("d", 1, "free"), ("e", 1, "free")]
>>> plan = Plan(Scheme(numbers, [("m", 0), ("d", 0), ("e", 0), ("m", 0)]), [3, 1, 2, 0], [(0, 3)])
>>> marks = Marks(plan, "m", 3)
>>> [marks.limit(("together", (1, 2))), bool(judge(marks.twin, ("together", (1, 2))))]
[2, True]
>>> plain = Plan(Scheme([("n", 2, "strict")], [("n", 1), ("n", 0)]), [1, 0], [])
>>> verdict = never_back(plain, ("n", (0, 1)))
>>> [bool(verdict), verdict.run[1]]
[False, ('look', 'look', 'look', 'write', 'look')]
"""

# The rows are those of the lookers' examples.
TEXTS = """
>>> show_plan(plain)
'numbers n 2 strict\\ncells n 1 n 0\\nlooks 1 0\\ntests none'
>>> read_plan("numbers n 2\\ncells n 0")
raises BadText(0, 3)
>>> [read_promise("order n 0 1 against 2 3"), show_promise(("together", (0, 2)))]
[('order', ('n', (0, 1)), ('n', (2, 3))), 'together 0 2']
>>> show_run(run)
'version n 0.9\\nversion n 1.0\\nevents look write look'
>>> read_run("version n 0.9\\nevents look walk")
raises BadText(1, 2)
>>> table(rows)
['   0 0.0             sides    0', '   1 0.1             sides    1']
"""

KNOWN = {
    "Board": Board, "Marks": Marks, "Numeral": Numeral, "Plan": Plan, "Reader": Reader, "Scheme": Scheme,
    "Weaving": Weaving, "carry": carry, "fewest_looks": fewest_looks, "first_fall": first_fall, "gaps": gaps,
    "how_many": how_many, "judge": judge, "mend": mend, "never_back": never_back, "numerals_from": numerals_from,
    "pattern_of": pattern_of, "patterns": patterns, "play": play, "read_plan": read_plan,
    "read_promise": read_promise, "read_run": read_run, "rewritten": rewritten, "right_readings": right_readings,
    "right_writings": right_writings, "show_plan": show_plan, "show_promise": show_promise, "show_run": show_run,
    "shows_breaks": shows_breaks, "shows_holds": shows_holds, "shows_least": shows_least, "sure": sure,
    "table": table, "torn": torn, "turned_versions": turned_versions, "weaving_of": weaving_of,
    "weavings_of": weavings_of,
}


class TestExamples(Case):

    def test_numerals(self):
        self.assert_examples(NUMERALS, 11)

    def test_plans(self):
        self.assert_examples(PLANS, 7)

    def test_boards(self):
        self.assert_examples(PLANS + BOARDS, 15)

    def test_readers(self):
        self.assert_examples(READERS, 16)

    def test_weavings(self):
        self.assert_examples(WEAVINGS, 7)

    def test_forced_digits(self):
        scheme = Scheme([("n", 2, "strict")], [("n", 0), ("n", 1), ("n", 1), ("n", 0)])
        plan = Plan(scheme, [3, 2, 1, 0], [(0, 3), (1, 2)])
        for pattern in patterns(plan):
            self.assert_same(list(pattern), sorted(pattern))
        self.assert_same(how_many(plan), [1, 3, 3, 1])
        pattern = (0, 1, 2, 3)
        self.assertIn(pattern, list(patterns(plan)))
        forced = Forced(plan, pattern, "n")
        self.assert_same((forced.classes(0), forced.blocks(1)), (((0, 1, 2, 3),), ((0, 3),)))
        self.assertIs(forced.same(1, 1, 2), True)
        self.assert_same((forced.clash, bool(forced)), (1, False))
        steps = (("rise", 0, 2, 3), ("tie", 0, 3, 0), ("chain", 0, 2, 3, 0), ("rise", 0, 0, 1), ("chain", 0, 2, 0, 1))
        self.assert_same(shown(plan, pattern, "n", steps)[-1], (0, 2, 1))
        self.assert_same(shown(plan, pattern, "n", forced.steps(0, 2, 1))[-1], (0, 2, 1))
        forced = Forced(plan, (0, 0, 0, 1), "n")
        self.assert_same((forced.same(0, 0, 1), forced.same(1, 0, 1)), (True, False))
        self.assert_same(forced.freest(), ((0, 0), (0, 1)))

    def test_the_judge(self):
        scheme = Scheme([("n", 2, "strict")], [("n", 1), ("n", 0)])
        plan = Plan(scheme, [1, 0], [])
        reading = ("n", (0, 1))
        self.assert_same(list(patterns(plan)), [(0, 0), (0, 1)])
        self.assertIs(bool(judge(plan, ("above", reading))), True)
        self.assert_same(why(plan, (0, 1), ("above", reading)),
                         ("sides", (("walk", (("rise", 0, 0, 1),)), ("walk", ()))))
        verdict = judge(plan, ("below", reading))
        self.assert_same((bool(verdict), verdict.pattern), (False, (0, 1)))
        run = (({"n": (0, 1)}, {"n": (1, 0)}), ("look", "write", "look"))
        self.assert_same((verdict.run, broken_by(plan, (0, 1), ("below", reading))), (run, run))
        self.assert_same(play(plan, run).answer(reading), (0, 0))
        self.assert_same(kept(plan, reading), ("above",))

    def test_the_judge_of_the_forced_digits_plan(self):
        scheme = Scheme([("n", 2, "strict")], [("n", 0), ("n", 1), ("n", 1), ("n", 0)])
        plan = Plan(scheme, [3, 2, 1, 0], [(0, 3), (1, 2)])
        reading = ("n", (3, 2))
        self.assert_same(kept(plan, reading), ("below", "above", "between", "stood"))
        told = {(0, 0, 0, 0): 0, (0, 0, 0, 1): 0, (0, 1, 1, 1): 1, (0, 1, 1, 2): 1}
        rows = judge(plan, ("stood", reading)).rows
        self.assertEqual(len(rows), 8)
        for pattern, reason in rows:
            self.assert_same(reason[:2], ("stood", told[pattern]) if pattern in told else ("tests", "n"))

    def test_lookers(self):
        self.assert_examples(READERS + LOOKERS, 19)

    def test_orders(self):
        self.assert_examples(ORDERS, 9)

    def test_fewest(self):
        self.assert_examples(FEWEST, 5)

    def test_marks(self):
        self.assert_examples(MARKS, 7)

    def test_texts(self):
        self.assert_examples(READERS + LOOKERS + TEXTS, 25)

    def test_the_desk(self):
        desk = Desk()
        self.assert_same(desk.say_all("layout n 2 1", "patterns", "stood n 2 1"), ["ok", "4", "holds 4"])

    def assert_examples(self, text, many):
        """Assert that each call tells what is written below it, and that there are so many lines of calls."""
        names = dict(KNOWN)
        parts = [part.strip().split("\n") for part in text.split(">>> ")[1:]]
        for part in parts:
            with self.subTest(part[0]):
                self.do(part, names)
        self.assertEqual(len(parts), many)

    def do(self, part, names):
        """Do one line with what is told below it, if anything."""
        if len(part) == 1:
            exec(part[0], names)
        elif part[1].startswith("raises "):
            wanted = eval(part[1][len("raises "):], dict(vars(errors)))
            # An error without fields is told by its class alone.
            wanted = wanted("") if isinstance(wanted, type) else wanted
            fields = list(vars(wanted).values())
            self.assert_raises(wanted.__class__, fields, eval, part[0], names)
        else:
            self.assertEqual(repr(eval(part[0], names)), part[1])


if __name__ == "__main__":
    unittest.main()
