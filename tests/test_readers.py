"""Readers [19], attempts [20] and life [23]."""

import itertools
import unittest

from risingread.boards import Board
from risingread.errors import NoReading, Spent, Unheard, Unlike
from risingread.plans import Plan
from risingread.readers import Reader
from risingread.runs import play
from risingread.schemes import Scheme
from tests.helper import Case, anything, plan_of, promises_of, readings_of, written
from tests.test_runs import all_events

NUMBERS = [("n", 2, "strict"), ("d", 1, "weak")]
CELLS = [("n", 1), ("d", 0), ("n", 0), ("n", 1)]
PLAN = Plan(Scheme(NUMBERS, CELLS), [3, 2, 1, 0], [(0, 3)])
BASES = {"n": (10, 10), "d": (10,)}
VERSIONS = [{"n": (0, 9), "d": (4,)}, {"n": (1, 0), "d": (4,)}, {"n": (1, 1), "d": (6,)}]
READING = ("n", (1, 0))


class Told(Exception):
    """An error of the tests' own."""


def state(reader):
    """All that a reader tells of itself."""
    return reader.left, reader.so_far, reader.sights, reader.passed


class ReaderCase(Case):

    def setUp(self):
        self.board = Board(PLAN.scheme, BASES, VERSIONS[0])
        self.reader = Reader(PLAN)

    def write(self, many):
        """Write so many cells, of versions that begin when they must."""
        for _ in range(many):
            if self.board.whole:
                self.board.begin(VERSIONS[self.board.version + 1])
            self.board.step()

    def look(self, many):
        """Make so many looks, and return what they hear."""
        return [self.reader(self.board) for _ in range(many)]

    def assert_spent(self):
        """Assert that no further look is made."""
        before = state(self.reader)
        with self.assertRaises(Spent) as caught:
            self.reader(self.board)
        self.assertIs(caught.exception.__class__, Spent)
        self.assert_same(state(self.reader), before)


class TestLooking(ReaderCase):

    def test_a_new_reader(self):
        self.assertEqual(self.reader.plan, PLAN)
        self.assert_same(state(self.reader), (4, (), (), None))

    def test_looks_at_all_moments(self):
        for writes in range(9):
            for events in all_events(writes, 4):
                self.setUp()
                heard, seen, done = [], [], 0
                for event in events:
                    if event == "write":
                        self.write(1)
                        done += 1
                        continue
                    cell = PLAN.looks[len(heard)]
                    heard.append(self.board.content[cell])
                    seen.append(written(PLAN, done)[cell])
                    self.assert_same(self.reader(self.board), heard[-1])
                    passed = None if len(heard) < 4 else heard[0] == heard[3]
                    self.assert_same(state(self.reader), (4 - len(heard), tuple(heard), tuple(seen), passed))
                told = play(PLAN, (VERSIONS, events))
                self.assert_same((told.heard, told.seen, told.passes), (tuple(heard), tuple(seen), self.reader.passed))

    def test_a_version_that_has_begun_and_is_not_written_yet(self):
        self.board.begin(VERSIONS[1])
        self.assert_same([self.look(4), self.reader.sights], [[9, 0, 4, 9], (0, 0, 0, 0)])
        self.board.finish()
        self.reader.restart()
        self.assert_same([self.look(4), self.reader.sights], [[0, 1, 4, 0], (1, 1, 1, 1)])

    def test_versions_of_a_row_are_seen(self):
        scheme = Scheme([("n", 2, "weak")], [("n", 0), ("n", 1)])
        board = Board(scheme, {"n": (10, 10)}, {"n": (0, 0)})
        reader = Reader(Plan(scheme, [0, 1, 0], []))
        row = board.row("n", [0, 1])
        told = []
        for by in (0, 10, 5):
            row += by
            told.append(reader(board))
        self.assert_same((told, reader.so_far, reader.sights), ([0, 0, 1], (0, 0, 1), (1, 2, 3)))

    def test_unlike_comes_ahead_of_spent(self):
        other = Scheme(NUMBERS, CELLS[::-1])
        boards = [Board(other, BASES, VERSIONS[0]),
                  Board(Scheme([("n", 2, "weak"), ("d", 1, "weak")], CELLS), BASES, VERSIONS[0])]
        for _ in range(5):
            before = state(self.reader)
            for board in boards:
                with self.assertRaises(Unlike) as caught:
                    self.reader(board)
                self.assertIs(caught.exception.__class__, Unlike)
            self.assert_same(state(self.reader), before)
            if self.reader.left:
                self.look(1)
        self.assert_spent()

    def test_an_equal_scheme(self):
        board = Board(Scheme(list(NUMBERS), list(CELLS)), BASES, VERSIONS[2])
        self.assert_same([self.reader(board) for _ in range(4)], [1, 1, 6, 1])

    def test_spent(self):
        self.assert_same(self.look(4), [9, 0, 4, 9])
        for _ in range(3):
            self.assert_spent()
        self.write(1)
        self.assert_spent()
        self.reader.restart()
        self.assert_same(self.look(4), [9, 0, 4, 0])
        self.assert_spent()
        self.assertIs(self.reader.passed, False)

    def test_restart_forgets(self):
        for many in range(5):
            self.look(many)
            self.assertEqual(self.reader.left, 4 - many)
            self.assertIsNone(self.reader.restart())
            self.assert_same(state(self.reader), (4, (), (), None))

    def test_two_readers(self):
        other = Reader(PLAN)
        self.look(3)
        other(self.board)
        self.assert_same((self.reader.left, other.left), (1, 3))
        other.restart()
        self.assert_same((self.reader.left, other.left), (1, 4))

    def test_a_held_board_is_looked_at(self):
        with self.board.held():
            self.assert_same(self.look(4), [9, 0, 4, 9])
        self.assert_same(self.board.during(lambda: Reader(PLAN).tried(lambda reader: reader(self.board))), 9)

    def test_no_test_passes_always(self):
        plan = Plan(PLAN.scheme, [3], [])
        reader = Reader(plan)
        self.assertIsNone(reader.passed)
        reader(self.board)
        self.assertIs(reader.passed, True)


class TestAnswers(ReaderCase):

    def test_answers(self):
        self.write(2)
        heard = self.look(4)
        for name, chosen in readings_of(PLAN):
            self.assert_same(self.reader.answer((name, chosen)), tuple(heard[look] for look in chosen))

    def test_unheard(self):
        for missing in range(4, 0, -1):
            for reading in readings_of(PLAN):
                before = state(self.reader)
                self.assert_raises(Unheard, [missing], self.reader.answer, reading)
                self.assert_same(state(self.reader), before)
            self.look(1)
        self.assert_same(self.reader.answer(READING), (0, 9))
        self.reader.restart()
        self.assert_raises(Unheard, [4], self.reader.answer, READING)

    def test_no_reading_comes_first(self):
        wrong = anything() + promises_of(PLAN) + [("n", (0, 1)), ("n", [1, 0]), ("n", (1,)), ("d", (True,))]
        for _ in range(5):
            for thing in wrong:
                self.assert_raises(NoReading, [thing], self.reader.answer, thing)
            if self.reader.left:
                self.look(1)


class TestAttempts(ReaderCase):

    def assert_as(self, heard, seen):
        """Assert that the reader has heard and seen just these."""
        passed = None if len(heard) < 4 else heard[0] == heard[3]
        self.assert_same(state(self.reader), (4 - len(heard), tuple(heard), tuple(seen), passed))

    def test_a_finished_attempt_stands(self):
        for ahead in range(5):
            self.setUp()
            self.look(ahead)
            with self.reader.attempt() as again:
                self.assertIs(again, self.reader)
                self.assert_as([], [])
                self.look(2)
                self.write(2)
                self.look(2)
                self.assert_as([9, 0, 4, 0], [0, 0, 1, 1])
            self.assert_as([9, 0, 4, 0], [0, 0, 1, 1])
            self.assert_same(self.reader.answer(READING), (0, 9))
            self.assert_spent()
            self.reader.restart()
            self.assert_as([], [])

    def test_an_attempt_that_is_not_finished_is_taken_back(self):
        for ahead, many in itertools.product(range(5), range(4)):
            self.setUp()
            before = self.look(ahead)
            self.write(3)
            with self.reader.attempt():
                self.look(many)
            self.assert_as(before, [0] * ahead)
            if ahead < 4:
                self.look(4 - ahead)
            self.assert_spent()

    def test_nothing_is_called_ahead_of_the_statement(self):
        self.look(2)
        trial = self.reader.attempt()
        self.assert_as([9, 0], [0, 0])
        self.look(1)
        with trial:
            self.assert_as([], [])
        self.assert_as([9, 0, 4], [0, 0, 0])

    def test_errors_ahead_of_the_last_look_and_behind_it(self):
        for ahead, many in itertools.product(range(5), range(5)):
            self.setUp()
            before = self.look(ahead)
            self.write(3)
            error = Told()
            with self.assertRaises(Told) as caught:
                with self.reader.attempt():
                    self.look(many)
                    raise error
            self.assertIs(caught.exception, error)
            self.assert_as(before, [0] * ahead)

    def test_an_error_that_does_not_leave_the_statements(self):
        with self.reader.attempt():
            self.look(4)
            self.assert_spent()
        self.assert_as([9, 0, 4, 9], [0] * 4)

    def test_left_by_return_and_break(self):
        def ask(many):
            with self.reader.attempt():
                return self.look(many)
        self.look(1)
        self.assert_same(ask(3), [9, 0, 4])
        self.assert_as([9], [0])
        for _ in range(2):
            with self.reader.attempt():
                self.look(4)
                break
        self.assert_as([9, 0, 4, 9], [0] * 4)

    def test_restart_within_an_attempt(self):
        for many in range(5):
            self.setUp()
            self.look(1)
            self.write(3)
            with self.reader.attempt():
                self.look(4)
                self.reader.restart()
                self.assert_as([], [])
                self.look(many)
            if many < 4:
                self.assert_as([9], [0])
            else:
                self.assert_as([9, 1, 4, 0], [0, 1, 1, 1])

    def test_attempts_within_attempts(self):
        # How many looks are made ahead, in the outer one, in the inner one, then in the outer one behind
        # it, and whether an error leaves the inner one or the outer one.
        sides = [range(5), range(5), range(5), range(3), (False, True), (False, True)]
        for ahead, outer, inner, behind, inner_error, outer_error in itertools.product(*sides):
            self.setUp()
            first = self.look(ahead)
            self.write(1)
            model = ([], [])
            try:
                with self.reader.attempt():
                    model[0].extend(self.look(outer))
                    model[1].extend(self.reader.sights)
                    self.write(2)
                    kept = (list(self.reader.so_far), list(self.reader.sights))
                    try:
                        with self.reader.attempt() as again:
                            self.assertIs(again, self.reader)
                            self.assert_as([], [])
                            told = (self.look(inner), list(self.reader.sights))
                            if inner_error:
                                raise Told()
                    except Told:
                        pass
                    model = told if inner == 4 and not inner_error else kept
                    self.assert_as(*model)
                    self.write(1)
                    for _ in range(behind):
                        if self.reader.left:
                            self.look(1)
                    model = (list(self.reader.so_far), list(self.reader.sights))
                    if outer_error:
                        raise Told()
            except Told:
                pass
            if len(model[0]) < 4 or outer_error:
                model = (first, [0] * ahead)
            self.assert_as(*model)

    def test_a_restart_in_the_outer_attempt_behind_an_inner_one_that_stands(self):
        for many in range(5):
            self.setUp()
            self.look(3)
            self.write(3)
            with self.reader.attempt():
                with self.reader.attempt():
                    self.look(4)
                self.reader.restart()
                self.look(many)
            if many < 4:
                self.assert_as([9, 0, 4], [0, 0, 0])
            else:
                self.assert_as([9, 1, 4, 0], [0, 1, 1, 1])

    def test_many_attempts_within_one_another(self):
        def ask(reader, deep):
            if deep == 0:
                self.look(4)
            else:
                reader.tried(lambda again: ask(again, deep - 1))
            self.assert_as([9, 0, 4, 9], [0] * 4)
        ask(self.reader, 40)
        self.reader.restart()
        self.assert_as([], [])

    def test_attempts_that_were_called_ahead(self):
        one, other = self.reader.attempt(), self.reader.attempt()
        self.look(1)
        with other:
            self.look(2)
            with one:
                self.look(3)
            self.assert_as([9, 0], [0, 0])
        self.assert_as([9], [0])

    def test_tried(self):
        given = [object()]
        for many in range(5):
            self.setUp()
            self.look(2)
            self.write(3)
            def ask(reader):
                self.assertIs(reader, self.reader)
                self.assert_as([], [])
                self.look(many)
                return given
            self.assertIs(self.reader.tried(ask), given)
            if many < 4:
                self.assert_as([9, 0], [0, 0])
            else:
                self.assert_as([9, 1, 4, 0], [0, 1, 1, 1])

    def test_tried_with_an_error(self):
        for many in range(5):
            self.setUp()
            self.look(2)
            error = Told()
            def ask(reader):
                self.look(many)
                raise error
            with self.assertRaises(Told) as caught:
                self.reader.tried(ask)
            self.assertIs(caught.exception, error)
            self.assert_as([9, 0], [0, 0])
        with self.assertRaises(Spent):
            self.reader.tried(lambda reader: self.look(5))
        self.assert_as([9, 0], [0, 0])


class TestLife(ReaderCase):

    def test_rest_between_two_versions(self):
        for whole in range(3):
            for _ in range(2):
                self.assert_same([self.look(4)[0], self.reader.passed], [VERSIONS[whole]["n"][1], True])
                self.assert_same(self.reader.sights, (whole,) * 4)
                for name, chosen in readings_of(PLAN):
                    self.assert_same(self.reader.answer((name, chosen)), VERSIONS[whole][name])
                self.reader.restart()
            if whole < 2:
                self.write(4)

    def test_rest_amid_a_version(self):
        plan = plan_of(1, "strict", [0, 0], [1, 0], [(0, 1)])
        board = Board(plan.scheme, {"n": (10,)}, {"n": (0,)})
        board.begin({"n": (1,)})
        board.step()
        reader = Reader(plan)
        for _ in range(3):
            self.assert_same([reader(board), reader(board), reader.passed, reader.sights], [0, 1, False, (0, 1)])
            reader.restart()
        board.finish()
        self.assert_same([reader(board), reader(board), reader.passed, reader.sights], [1, 1, True, (1, 1)])


if __name__ == "__main__":
    unittest.main()
