"""Boards [15], the writing of versions [16], and held stretches [18]."""

import unittest

from risingread.boards import Board
from risingread.errors import Busy, Fallen, Held, Idle, NoBases, NoCell, NoName, NoVersion
from risingread.schemes import Scheme
from tests.helper import Case, anything

NUMBERS = [("n", 2, "strict"), ("d", 2, "weak"), ("m", 1, "free")]
CELLS = [("n", 1), ("m", 0), ("n", 0), ("d", 0), ("d", 1), ("n", 1)]
SCHEME = Scheme(NUMBERS, CELLS)
BASES = {"n": (10, 2), "d": (3, 100), "m": (2,)}
FIRST = {"n": (0, 1), "d": (1, 99), "m": (1,)}
VERSIONS = [
    {"n": (1, 0), "d": (1, 99), "m": (1,)}, {"n": (9, 0), "d": (2, 0), "m": (0,)},
    {"m": (0,), "n": (9, 1), "d": (2, 99)},
]
NO_BASES = [[10, 10], (10,), (10, 10, 10), (), (10, 1), (101, 10), (0, 10), (-2, 10), (10, True), ("10", 10), (None, 10),
            ((10,), 10), ([10], 10), {0: 10, 1: 10}, {}, None, "10", 10, True, (10, 10 ** 59)]
NO_DIGITS = [[0, 1], (0,), (0, 1, 0), (), (10, 0), (0, 2), (-1, 0), (0, -1), (0, True), (False, 1), ("0", 1), (0, None),
             ((0,), 1), ([0], 1), {0: 0, 1: 1}, {}, None, "01", 1, True, (10 ** 59, 0)]


def told(board):
    """All that a board tells of itself."""
    cells = [board[cell] for cell in range(len(board.scheme))]
    rows = [board.digits_of(name) for name, _, _ in board.scheme.numbers]
    return board.content, board.version, board.whole, board.coming, cells, rows


class BoardCase(Case):

    def setUp(self):
        self.board = Board(SCHEME, BASES, FIRST)

    def assert_refused(self, error, fields, call, *passed):
        """Assert that the call raises this error, and that the board stays as it is."""
        before = told(self.board)
        if error in (Busy, Held, Idle, NoCell):
            with self.assertRaises(error) as caught:
                call(*passed)
            self.assertIs(caught.exception.__class__, error)
        else:
            self.assert_raises(error, fields, call, *passed)
        self.assert_same(told(self.board), before)


class TestMaking(BoardCase):

    def test_a_new_board(self):
        self.assertEqual(self.board.scheme, SCHEME)
        self.assert_same(told(self.board), ((1, 1, 0, 1, 99, 1), 0, True, None, [1, 1, 0, 1, 99, 1],
                                            [(0, 1), (1, 99), (1,)]))

    def test_bases_that_are_no_dict_or_have_other_names(self):
        wrong = [{"n": (10, 2), "d": (3, 100)}, {**BASES, "x": (2,)}, {"n": (10, 2), "d": (3, 100), "x": (2,)},
                 {"n": None, "d": None}, {**BASES, 0: (2,)}, list(BASES.items()), tuple(BASES), {"n": (10, 2)}]
        for bases in wrong + anything():
            for first in (FIRST, None, {}):
                self.assert_raises(NoBases, [None], Board, SCHEME, bases, first)

    def test_the_first_number_whose_bases_are_wrong(self):
        for wrong in NO_BASES + anything():
            for first in (FIRST, None, {"n": None}):
                self.assert_raises(NoBases, ["n"], Board, SCHEME, {"m": wrong, "d": wrong, "n": wrong}, first)
                self.assert_raises(NoBases, ["d"], Board, SCHEME, {**BASES, "d": wrong}, first)
                if repr(wrong) != "(2,)" and wrong != (10,):
                    self.assert_raises(NoBases, ["m"], Board, SCHEME, {**BASES, "m": wrong}, first)

    def test_a_version_that_is_no_dict_or_has_other_names(self):
        wrong = [{"n": (0, 1), "d": (1, 9)}, {**FIRST, "x": (0,)}, {"n": (0, 1), "d": (1, 9), "x": (0,)},
                 {"n": None}, {**FIRST, None: (0,)}, list(FIRST.items()), tuple(FIRST)]
        for version in wrong + anything():
            self.assert_raises(NoVersion, [None], Board, SCHEME, BASES, version)
            self.assert_refused(NoVersion, [None], self.board.begin, version)

    def test_the_first_number_whose_digits_are_wrong(self):
        for wrong in NO_DIGITS + anything():
            versions = [("n", {"m": wrong, "d": wrong, "n": wrong}), ("n", {**VERSIONS[0], "n": wrong})]
            if wrong != (0, 2):
                versions.append(("d", {**VERSIONS[0], "d": wrong}))
            if wrong not in [(0,), (1,)]:
                versions.append(("m", {**VERSIONS[0], "m": wrong}))
            for name, version in versions:
                self.assert_raises(NoVersion, [name], Board, SCHEME, BASES, version)
                self.assert_refused(NoVersion, [name], self.board.begin, version)

    def test_greatest_and_least_bases(self):
        scheme = Scheme([("n", 4, "free")], [("n", place) for place in range(4)])
        board = Board(scheme, {"n": (2, 100, 2, 100)}, {"n": (1, 99, 1, 99)})
        self.assert_same(board.content, (1, 99, 1, 99))
        self.assert_raises(NoVersion, ["n"], Board, scheme, {"n": (2, 100, 2, 100)}, {"n": (1, 99, 2, 99)})

    def test_what_was_passed_stays_and_may_be_changed_afterwards(self):
        bases, first, version = dict(BASES), dict(FIRST), dict(VERSIONS[0])
        board = Board(SCHEME, bases, first)
        self.assert_same((bases, first), (BASES, FIRST))
        bases["n"] = (2, 2)
        bases["x"] = None
        first["n"] = (9, 1)
        del first["m"]
        self.assert_same(told(board), told(self.board))
        board.begin(version)
        self.assert_same(version, VERSIONS[0])
        version["n"] = (5, 1)
        del version["d"]
        self.assert_same(board.digits_of("n"), (1, 0))
        board.finish()
        self.assert_same(board.content, (0, 1, 1, 1, 99, 0))
        board.begin(VERSIONS[1])
        self.assert_same(board.digits_of("n"), (9, 0))


class TestWriting(BoardCase):

    def test_each_step(self):
        content = list(self.board.content)
        for number, version in enumerate(VERSIONS, 1):
            self.assertIsNone(self.board.begin(version))
            rows = [version["n"], version["d"], version["m"]]
            for cell, (name, place) in enumerate(CELLS):
                self.assert_same(told(self.board), (tuple(content), number, False, cell, content, rows))
                self.assert_same(self.board.step(), cell)
                content[cell] = version[name][place]
            self.assert_same(told(self.board), (tuple(content), number, True, None, content, rows))

    def test_finish(self):
        for done in range(7):
            board = Board(SCHEME, BASES, FIRST)
            board.begin(VERSIONS[1])
            for _ in range(done):
                board.step()
            self.assert_same(board.finish(), 6 - done)
            self.assert_same(told(board), ((0, 0, 9, 2, 0, 0), 1, True, None, [0, 0, 9, 2, 0, 0],
                                           [(9, 0), (2, 0), (0,)]))
            self.assert_same(board.finish(), 0)
            self.assert_same(board.version, 1)
        self.assert_same(self.board.finish(), 0)
        self.assert_same(self.board.version, 0)

    def test_idle(self):
        self.assert_refused(Idle, None, self.board.step)
        self.board.begin(VERSIONS[0])
        self.board.finish()
        self.assert_refused(Idle, None, self.board.step)
        self.board.begin(VERSIONS[1])
        self.assert_same(self.board.step(), 0)

    def test_busy_comes_first(self):
        self.board.begin(VERSIONS[0])
        for done in range(6):
            for version in (VERSIONS[1], FIRST, None, {}, {**VERSIONS[1], "n": None}):
                self.assert_refused(Busy, None, self.board.begin, version)
            self.assert_same(self.board.step(), done)
        self.board.begin(VERSIONS[1])

    def test_fallen(self):
        board = self.board
        right = VERSIONS[0]
        self.assert_refused(Fallen, ["n", None], board.begin, {**right, "n": (0, 1)})
        self.assert_refused(Fallen, ["n", 1], board.begin, {**right, "n": (0, 0)})
        self.assert_refused(Fallen, ["d", 0], board.begin, {**right, "d": (0, 99)})
        self.assert_refused(Fallen, ["d", 1], board.begin, {**right, "d": (1, 98)})
        board.begin(VERSIONS[1])
        board.finish()
        self.assert_refused(Fallen, ["n", 0], board.begin, {**VERSIONS[2], "n": (8, 1)})
        self.assert_refused(Fallen, ["d", 0], board.begin, {**VERSIONS[2], "d": (1, 99)})
        board.begin({**VERSIONS[2], "d": (2, 0), "m": (1,)})

    def test_the_first_number_that_does_not_rise(self):
        numbers = [("a", 1, "free"), ("b", 2, "weak"), ("c", 3, "strict")]
        cells = [("c", 0), ("b", 0), ("a", 0), ("c", 1), ("b", 1), ("c", 2)]
        bases = {"c": (9, 9, 9), "b": (9, 9), "a": (9,)}
        for turn in range(3):
            turned = numbers[turn:] + numbers[:turn]
            self.board = Board(Scheme(turned, cells), bases, {"a": (5,), "b": (5, 5), "c": (5, 5, 5)})
            names = [name for name, _, _ in turned if name != "a"]
            places = {"b": 1, "c": 2}
            fallen = {"a": (0,), "b": (5, 4), "c": (5, 5, 4)}
            self.assert_refused(Fallen, [names[0], places[names[0]]], self.board.begin, fallen)
            risen = {"b": (5, 5), "c": (5, 5, 6)}
            self.assert_refused(Fallen, [names[1], places[names[1]]], self.board.begin,
                                {**fallen, names[0]: risen[names[0]]})
            self.assert_refused(NoVersion, [names[1]], self.board.begin, {**fallen, names[1]: (9, 9)})

    def test_nothing_is_written_by_begin(self):
        for number, version in enumerate(VERSIONS, 1):
            before = self.board.content
            self.board.begin(version)
            self.assert_same((self.board.content, self.board.version), (before, number))
            self.board.finish()


class TestAsking(BoardCase):

    def test_cells(self):
        for thing in [6, 7, -1, -6, 10 ** 59, "0"] + anything():
            if repr(thing) in [repr(cell) for cell in range(6)]:
                self.assert_same(self.board[thing], self.board.content[thing])
            else:
                self.assert_refused(NoCell, None, self.board.__getitem__, thing)

    def test_digits_of_no_number(self):
        for thing in anything() + ["x", "N", ["n"], ("n", 0), ("n",)]:
            if thing != "n":
                self.assert_refused(NoName, [thing], self.board.digits_of, thing)

    def test_a_board_equals_nothing_else(self):
        self.assertIs(self.board == Board(SCHEME, BASES, FIRST), False)
        self.assertIs(self.board == self.board.content, False)


class TestHeld(BoardCase):

    def assert_held(self):
        """Assert that nothing can be written, whatever else is wrong."""
        row = self.board.row("n", [2, 0])
        for call, passed in [
            (self.board.begin, [VERSIONS[1]]), (self.board.begin, [FIRST]), (self.board.begin, [None]),
            (self.board.step, []), (self.board.finish, []), (row.__iadd__, [0]), (row.__iadd__, [2]),
            (row.__iadd__, [10 ** 59]),
        ]:
            self.assert_refused(Held, None, call, *passed)

    def assert_goes_on(self):
        """Assert that the board can be written."""
        self.board.finish()
        self.board.begin({**FIRST, "n": (9, self.board.version)})
        self.assert_same(self.board.step(), 0)

    def test_held_when_whole_and_amid_a_version(self):
        with self.board.held():
            self.assert_held()
        self.board.begin(VERSIONS[0])
        for done in range(6):
            with self.board.held():
                self.assert_held()
            self.assert_same(self.board.step(), done)
        with self.board.held():
            self.assert_held()
        self.board.begin(VERSIONS[1])

    def test_stretches_within_one_another(self):
        with self.board.held():
            with self.board.held():
                with self.board.held():
                    self.assert_held()
                self.assert_held()
            self.assert_held()
            with self.board.held():
                self.assert_held()
            self.assert_held()
        self.assert_goes_on()

    def test_stretches_that_were_called_ahead(self):
        one, other = self.board.held(), self.board.held()
        self.board.begin(VERSIONS[0])
        with other:
            with one:
                self.assert_held()
            self.assert_held()
        self.assert_same(self.board.finish(), 6)

    def test_behind_an_error(self):
        with self.assertRaises(KeyError):
            with self.board.held():
                try:
                    with self.board.held():
                        raise IndexError("in the inner one")
                except IndexError:
                    self.assert_held()
                raise KeyError("in the outer one")
        self.assert_goes_on()
        with self.assertRaises(Held):
            with self.board.held():
                self.board.step()
        self.assert_same(self.board.step(), 1)

    def test_left_by_return_and_break(self):
        def ask():
            with self.board.held():
                return self.board.content
        self.assert_same(ask(), self.board.content)
        for _ in range(2):
            with self.board.held():
                break
        self.assert_goes_on()

    def test_another_board_goes_on(self):
        other = Board(SCHEME, BASES, FIRST)
        with self.board.held():
            other.begin(VERSIONS[0])
            self.assert_same(other.finish(), 6)

    def test_reading_goes_on(self):
        self.board.begin(VERSIONS[0])
        self.board.step()
        before = told(self.board)
        with self.board.held():
            self.assert_same(told(self.board), before)
            self.assert_same(self.board.row("n", [2, 0])[1], 0)

    def test_during(self):
        given = ["one", {"two": 3}]
        for answer in (None, 0, False, given):
            def ask():
                self.assert_held()
                return answer
            self.assertIs(self.board.during(ask), answer)
        self.assertIs(self.board.during(lambda: self.board.during(self.board.held).__class__),
                      self.board.held().__class__)
        self.assert_goes_on()

    def test_errors_go_on(self):
        error = KeyError("told")
        def ask():
            raise error
        with self.assertRaises(KeyError) as caught:
            self.board.during(ask)
        self.assertIs(caught.exception, error)
        self.assert_goes_on()
        with self.assertRaises(Held):
            self.board.during(self.board.step)
        self.assert_same(self.board.step(), 1)


if __name__ == "__main__":
    unittest.main()
