"""Boards: the cells of a scheme while they are written."""

from risingread.bases import is_bases
from risingread.checks import is_numbered, is_whole
from risingread.errors import Busy, Fallen, Held, Idle, NoBases, NoCell, NoCells, NoPlace, NoVersion
from risingread.numerals import Numeral
from risingread.versions import first_fallen, has_names


class Board:
    """The digits that stand in the cells of a scheme, and the version that is written into them."""

    def __init__(self, scheme, bases, first):
        _check_bases(scheme, bases)
        _check_version(scheme, bases, first)
        self.scheme = scheme
        self.bases = dict(bases)
        self.newest = 0
        self.current = dict(first)
        self.standing = [first[name][place] for name, place in scheme.cells]
        self.written = len(self.standing)
        self.is_held = False

    @property
    def content(self):
        """The tuple of the digits, cell by cell."""
        return tuple(self.standing)

    @property
    def version(self):
        """The number of the newest version that has begun."""
        return self.newest

    @property
    def whole(self):
        """Whether no version is being written."""
        return self.written == len(self.standing)

    @property
    def coming(self):
        """The number of the cell that is written next, None if the board is whole."""
        return None if self.whole else self.written

    def __getitem__(self, at):
        if not is_numbered(at, len(self.standing)):
            raise NoCell("there is no such cell")
        return self.standing[at]

    def __iter__(self):
        raise TypeError("a board is asked cell by cell")

    def version_at(self, cell):
        """Return the number of the version by which the cell was written last."""
        return self.newest if cell < self.written else self.newest - 1

    def digits_of(self, name):
        """Return the tuple of the digits of a number in the newest version."""
        # Only the scheme can be asked for a name that may be anything: it raises NoName.
        self.scheme.kind_of(name)
        return self.current[name]

    def begin(self, version):
        """Begin the next version, without writing any of it."""
        self._check_rest()
        _check_version(self.scheme, self.bases, version)
        _check_rise(self.scheme, self.current, version)
        self.current = dict(version)
        self.newest = self.newest + 1
        self.written = 0

    def step(self):
        """Write the next cell, and return its number."""
        self._check_free()
        if self.whole:
            raise Idle("no version is being written")
        cell = self.written
        name, place = self.scheme.cells[cell]
        self.standing[cell] = self.current[name][place]
        self.written = cell + 1
        return cell

    def finish(self):
        """Write all cells that are left, and return how many these are."""
        self._check_free()
        many = 0
        while not self.whole:
            self.step()
            many = many + 1
        return many

    def write_greater(self, name, by):
        """Write one whole version, in which this number is so much greater and all others stay."""
        self._check_rest()
        greater = Numeral(self.current[name], self.bases[name]) + by
        version = dict(self.current)
        version[name] = greater.digits
        self.begin(version)
        self.finish()

    def _check_free(self):
        """Raise Held if nothing may be written now."""
        if self.is_held:
            raise Held("the board is held")

    def _check_rest(self):
        """Raise an error if no version may be begun now."""
        self._check_free()
        if not self.whole:
            raise Busy("a version is being written")

    def row(self, name, cells):
        """Return the view of some cells, one for each place of the number."""
        places = self.scheme.places_of(name)
        if not isinstance(cells, list) or len(cells) != places:
            raise NoCells("there is one cell for each place")
        for place, cell in enumerate(cells):
            if not is_numbered(cell, len(self.standing)) or self.scheme.cells[cell] != (name, place):
                raise NoCells("each cell is one of its place")
        return Row(self, name, cells)

    def held(self):
        """Return what holds the board in a with statement."""
        return Holding(self)

    def during(self, ask):
        """Call it while the board is held, and return what it returns."""
        with self.held():
            return ask()


class Row:
    """A view of some cells of a board, one for each place of a number."""

    def __init__(self, board, name, cells):
        self.board = board
        self.name = name
        self.cells = tuple(cells)

    def __getitem__(self, at):
        if not is_numbered(at, len(self.cells)):
            raise NoPlace(at)
        return self.board.standing[self.cells[at]]

    def __iter__(self):
        raise TypeError("a row is asked place by place")

    def __iadd__(self, other):
        if not is_whole(other):
            return NotImplemented
        self.board.write_greater(self.name, other)
        return self

    def __len__(self):
        return len(self.cells)

    def numeral(self):
        """Return the numeral of what stands in the row now."""
        digits = [self.board.standing[cell] for cell in self.cells]
        return Numeral(digits, self.board.bases[self.name])


class Holding:
    """What holds a board in a with statement."""

    def __init__(self, board):
        self.board = board
        self.was_held = False

    def __enter__(self):
        board = self.board
        # Held stretches may lie within one another: the inner one ends as it began.
        self.was_held = board.is_held
        board.is_held = True
        return board

    def __exit__(self, kind, value, trace):
        board = self.board
        board.is_held = self.was_held


def _check_bases(scheme, bases):
    """Raise NoBases with the first number whose bases are wrong."""
    if not has_names(scheme, bases):
        raise NoBases(None)
    for name, places, _ in scheme.numbers:
        known = bases[name]
        if not isinstance(known, tuple) or not is_bases(known) or len(known) != places:
            raise NoBases(name)


def _check_version(scheme, bases, version):
    """Raise NoVersion with the first number whose digits are wrong."""
    if not has_names(scheme, version):
        raise NoVersion(None)
    for name, _, _ in scheme.numbers:
        if not isinstance(version[name], tuple) or not Numeral.is_numeral(version[name], bases[name]):
            raise NoVersion(name)


def _check_rise(scheme, one, other):
    """Raise Fallen with the first number that must not go from the one version to the other."""
    name = first_fallen(scheme, one, other)
    if name is not None:
        raise Fallen(name, _first_less(other[name], one[name]))


def _first_less(digits, others):
    """Return the first place at which the digit is less than the other one, or None."""
    for place, digit in enumerate(digits):
        if digit < others[place]:
            return place
    return None
