"""Rows of a board [17]."""

import itertools
import unittest

from risingread.boards import Board
from risingread.errors import Busy, Fallen, NoCells, NoName, NoPlace, Overflow
from risingread.numerals import Numeral
from risingread.schemes import Scheme
from tests.helper import Case, anything
from tests.test_boards import told

NUMBERS = [("n", 3, "strict"), ("d", 2, "weak"), ("m", 1, "free")]
CELLS = [("n", 2), ("m", 0), ("n", 0), ("n", 1), ("d", 0), ("d", 1), ("n", 2), ("m", 0)]
BASES = {"n": (10, 10, 10), "d": (3, 5), "m": (7,)}
FIRST = {"n": (0, 0, 8), "d": (1, 4), "m": (2,)}
NEXT = {"n": (0, 1, 0), "d": (2, 0), "m": (0,)}


def board_of(*numbers, first=None):
    """A board with these numbers of one place, each in one cell and of base 10."""
    scheme = Scheme(list(numbers), [(name, place) for name, places, _ in numbers for place in range(places)])
    bases = {name: (10,) * places for name, places, _ in numbers}
    return Board(scheme, bases, first or {name: (0,) * places for name, places, _ in numbers})


class TestRows(Case):

    def setUp(self):
        self.board = Board(Scheme(NUMBERS, CELLS), BASES, FIRST)

    def test_up_to_date_at_each_step(self):
        choices = {"n": [[2, 3, 0], [2, 3, 6]], "d": [[4, 5]], "m": [[1], [7]]}
        rows = [(name, cells, self.board.row(name, cells)) for name in choices for cells in choices[name]]
        self.board.begin(NEXT)
        for _ in range(9):
            for name, cells, row in rows:
                standing = [self.board.content[cell] for cell in cells]
                self.assert_same([row[place] for place in range(len(cells))], standing)
                self.assertEqual(row.numeral(), Numeral(standing, BASES[name]))
                self.assert_same(str(row.numeral()), str(Numeral(standing, BASES[name])))
                self.assert_same(len(row), len(cells))
            if not self.board.whole:
                self.board.step()

    def test_no_place(self):
        row = self.board.row("n", [2, 3, 0])
        for thing in [3, 4, -1, -3, 10 ** 59, "0"] + anything():
            if repr(thing) in ("0", "1", "2"):
                self.assert_same(row[thing], (0, 0, 8)[thing])
            else:
                self.assert_raises(NoPlace, [thing], row.__getitem__, thing)

    def test_no_name(self):
        for thing in anything() + ["x", "N", ("n", 0)]:
            if thing != "n":
                for cells in ([2, 3, 0], [1], None, []):
                    self.assert_raises(NoName, [thing], self.board.row, thing, cells)

    def test_no_cells(self):
        wrong = [(2, 3, 0), [2, 3], [2, 3, 0, 6], [3, 2, 0], [0, 3, 2], [2, 3, 3], [2, 3, 1], [4, 5, 0], [], None,
                 [2, 3, -2], [2, 3, -8], [2, 3, 8], [2, 3, False], [2, 3, None], [2, 3, "0"], [2, 3, [0]], [[2, 3, 0]],
                 [2, 3, (0,)], [2, 3, {}], {0: 2, 1: 3, 2: 0}, "230", 230, [2, 3, 10 ** 59]]
        for cells in wrong + anything():
            with self.assertRaises(NoCells) as caught:
                self.board.row("n", cells)
            self.assertIs(caught.exception.__class__, NoCells)
        for cells in itertools.product(range(8), repeat=2):
            if cells != (4, 5):
                self.assertRaises(NoCells, self.board.row, "d", list(cells))
        for cells in ([True], [2], [], [1, 7], 1, (1,)):
            self.assertRaises(NoCells, self.board.row, "m", cells)

    def test_what_was_passed_stays_and_may_be_changed_afterwards(self):
        cells = [2, 3, 6]
        row = self.board.row("n", cells)
        self.assert_same(cells, [2, 3, 6])
        cells[0] = 1
        cells.pop()
        self.assert_same([row[0], row[1], row[2], len(row)], [0, 0, 8, 3])

    def test_a_row_equals_nothing_else(self):
        row = self.board.row("m", [1])
        self.assertIs(row == self.board.row("m", [1]), False)
        self.assertIs(row == row.numeral(), False)


class TestAdding(Case):

    def setUp(self):
        self.board = Board(Scheme(NUMBERS, CELLS), BASES, FIRST)

    def assert_refused(self, error, fields, row, by):
        """Assert that adding raises this error, and changes nothing."""
        before = told(row.board)
        kept = row
        if error is Busy:
            with self.assertRaises(Busy) as caught:
                row += by
            self.assertIs(caught.exception.__class__, Busy)
        else:
            self.assert_raises(error, fields, row.__iadd__, by)
        self.assertIs(row, kept)
        self.assert_same(told(row.board), before)

    def test_small_and_great_amounts(self):
        for by in (1, 2, 3, 90, 91, 92, 892, 991):
            board = Board(Scheme(NUMBERS, CELLS), BASES, FIRST)
            row = kept = board.row("n", [2, 3, 6])
            row += by
            self.assertIs(row, kept)
            self.assertEqual(row.numeral(), Numeral.of(8 + by, (10, 10, 10)))
            digits = row.numeral().digits
            self.assert_same(board.content, (digits[2], 2, digits[0], digits[1], 1, 4, digits[2], 2))
            self.assert_same((board.version, board.whole, board.coming), (1, True, None))
            self.assert_same([board.digits_of(name) for name in "ndm"], [digits, (1, 4), (2,)])

    def test_each_addition_is_one_version(self):
        board = board_of(("n", 2, "weak"), ("m", 2, "free"))
        one, other = board.row("n", [0, 1]), board.row("m", [2, 3])
        for number, (row, by, content) in enumerate([
            (one, 0, (0, 0, 0, 0)), (one, 9, (0, 9, 0, 0)), (other, 99, (0, 9, 9, 9)), (one, 1, (1, 0, 9, 9)),
            (other, 0, (1, 0, 9, 9)), (one, 89, (9, 9, 9, 9)), (one, 0, (9, 9, 9, 9)),
        ], 1):
            row += by
            self.assert_same((board.content, board.version, board.whole), (content, number, True))

    def test_the_newest_version_counts(self):
        # The cells of the row are of the old version still, or of the new one already.
        board = board_of(("n", 2, "strict"))
        row = board.row("n", [0, 1])
        board.begin({"n": (4, 2)})
        board.finish()
        row += 1
        self.assert_same((board.content, board.version), ((4, 3), 2))

    def test_busy_comes_first(self):
        row = self.board.row("n", [2, 3, 0])
        self.board.begin(NEXT)
        for done in range(8):
            for by in (0, 1, 10 ** 59):
                self.assert_refused(Busy, None, row, by)
            self.board.step()
        row += 1
        self.assert_same(self.board.digits_of("n"), (0, 1, 1))

    def test_overflow_comes_next(self):
        row = self.board.row("n", [2, 3, 0])
        for by in (992, 993, 10 ** 9, 10 ** 59):
            self.assert_refused(Overflow, [8 + by], row, by)
        row = self.board.row("d", [4, 5])
        for by in (6, 7, 10 ** 59):
            self.assert_refused(Overflow, [9 + by], row, by)
        self.assert_refused(Fallen, ["n", None], row, 5)

    def test_fallen_with_the_first_strict_number_that_stays(self):
        for numbers, adding, by, name in [
            ([("a", 1, "strict")], "a", 0, "a"),
            ([("a", 1, "strict"), ("b", 1, "strict")], "a", 1, "b"),
            ([("a", 1, "strict"), ("b", 1, "strict")], "a", 0, "a"),
            ([("a", 1, "strict"), ("b", 1, "strict")], "b", 1, "a"),
            ([("a", 1, "strict"), ("b", 1, "strict")], "b", 0, "a"),
            ([("a", 1, "weak"), ("b", 1, "strict")], "a", 1, "b"),
            ([("a", 1, "free"), ("b", 1, "strict")], "a", 9, "b"),
            ([("a", 1, "free"), ("b", 1, "strict")], "b", 0, "b"),
            ([("a", 1, "weak"), ("b", 1, "strict"), ("c", 1, "strict")], "c", 1, "b"),
            ([("a", 1, "weak"), ("b", 1, "strict"), ("c", 1, "strict")], "b", 1, "c"),
        ]:
            board = board_of(*numbers)
            cell = board.scheme.cells_of(adding, 0)
            self.assert_refused(Fallen, [name, None], board.row(adding, cell), by)
            self.assert_refused(Overflow, [10], board.row(adding, cell), 10)

    def test_free_and_weak_numbers(self):
        for kind in ("weak", "free"):
            board = board_of(("a", 1, kind), ("b", 1, "weak"), first={"a": (4,), "b": (9,)})
            row = board.row("a", [0])
            row += 0
            row += 5
            self.assert_same((board.content, board.version), ((9, 9), 2))
            self.assert_refused(Overflow, [10], row, 1)

    def test_one_strict_number_with_a_carry_over_several_places(self):
        board = board_of(("n", 4, "strict"), ("w", 1, "weak"), first={"n": (0, 9, 9, 9), "w": (3,)})
        row = board.row("n", [0, 1, 2, 3])
        row += 1
        self.assert_same((board.content, board.version), ((1, 0, 0, 0, 3), 1))
        row += 8999
        self.assert_same((board.content, board.version), ((9, 9, 9, 9, 3), 2))


if __name__ == "__main__":
    unittest.main()
