"""Readers: the looks of a plan, made one at a time at a board."""

from risingread.errors import NoReading, Spent, Unheard, Unlike
from risingread.plans import come_out, digits_in


class Reader:
    """Makes the looks of a plan in order, and keeps what it has heard in this attempt."""

    def __init__(self, plan):
        self.plan = plan
        self.hearing = Hearing((), (), None)

    def __call__(self, board):
        if board.scheme != self.plan.scheme:
            raise Unlike("the board has another scheme than the plan")
        if self.left == 0:
            raise Spent("all looks of the attempt are made")
        cell = self.plan.looks[len(self.so_far)]
        hearing = self.hearing.with_look(board[cell], board.version_at(cell))
        if len(hearing.digits) == len(self.plan):
            _settle(hearing)
        self.hearing = hearing
        return board[cell]

    @property
    def left(self):
        """How many looks of the attempt are not made yet."""
        return len(self.plan) - len(self.hearing.digits)

    @property
    def so_far(self):
        """The tuple of the digits that were heard in this attempt."""
        return self.hearing.digits

    @property
    def sights(self):
        """The tuple of the versions that were seen in this attempt."""
        return self.hearing.numbers

    @property
    def passed(self):
        """Whether the attempt passes, None while looks are left."""
        if len(self.hearing.digits) < len(self.plan):
            return None
        return come_out(self.plan.tests, self.hearing.digits)

    def answer(self, reading):
        """Return the tuple of the digits that the reading heard, place by place."""
        if not self.plan.is_reading(reading):
            raise NoReading(reading)
        if self.left > 0:
            raise Unheard(self.left)
        return digits_in(reading, self.so_far)

    def restart(self):
        """Begin anew, and forget what was heard."""
        self.hearing = Hearing((), (), self.hearing.earlier)

    def attempt(self):
        """Return what begins an attempt in a with statement, and takes it back if it is not finished."""
        return Attempt(self)

    def tried(self, ask):
        """Call it with the reader within an attempt, and return what it returns."""
        with self.attempt() as again:
            return ask(again)


class Hearing:
    """What was heard and seen in an attempt so far.

    earlier is what the reader had heard ahead of the innermost with statement
    that it is in, or None if it is in none. outcome is what it will have heard
    behind that statement, if the statement ends now.
    """

    def __init__(self, digits, numbers, earlier):
        self.digits = digits
        self.numbers = numbers
        self.earlier = earlier
        self.outcome = earlier

    def with_look(self, digit, number):
        """Return it with one look more."""
        return Hearing(self.digits + (digit,), self.numbers + (number,), self.earlier)


def _settle(hearing):
    """Let a finished attempt stand behind each with statement that the reader is in."""
    while hearing.earlier is not None:
        hearing.outcome = Hearing(hearing.digits, hearing.numbers, hearing.earlier.earlier)
        hearing = hearing.outcome


class Attempt:
    """An attempt of a reader in a with statement."""

    def __init__(self, reader):
        self.reader = reader
        self.earlier = None

    def __enter__(self):
        reader = self.reader
        self.earlier = reader.hearing
        reader.hearing = Hearing((), (), reader.hearing)
        return reader

    def __exit__(self, kind, value, trace):
        reader = self.reader
        reader.hearing = reader.hearing.outcome
        if kind is not None:
            reader.hearing = self.earlier
