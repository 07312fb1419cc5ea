"""Schemes: which cells there are, and in which order they are written."""

from risingread.bases import MOST_PLACES
from risingread.checks import KINDS, is_name, is_whole
from risingread.errors import NoName, NoScheme


class Scheme:
    """The numbers with their places and kinds, and the cells in the order of writing."""

    CELLS = 8
    NUMBERS = 3

    def __init__(self, numbers, cells):
        check_numbers(numbers)
        _check_cells(cells, numbers)
        self.numbers = tuple(numbers)
        self.cells = tuple(cells)

    def kind_of(self, name):
        """Return the kind of the number of this name."""
        return self._number_of(name)[2]

    def places_of(self, name):
        """Return how many places the number of this name has."""
        return self._number_of(name)[1]

    def _number_of(self, name):
        """Return the name, places and kind of the number of this name."""
        for number in self.numbers:
            if number[0] == name:
                return number
        raise NoName(name)

    def cells_of(self, name, place):
        """Return the list of the numbers of the cells of this place, ascending."""
        if not is_whole(place):
            return []
        return [number for number, cell in enumerate(self.cells) if cell == (name, place)]

    def renamed(self, names):
        """Return the scheme with a new name for each name."""
        if not _is_renaming(names, [name for name, _, _ in self.numbers]):
            raise NoScheme("numbers", None)
        numbers = [(names[name], places, kind) for name, places, kind in self.numbers]
        return Scheme(numbers, [(names[name], place) for name, place in self.cells])

    def __eq__(self, other):
        if not isinstance(other, Scheme):
            return NotImplemented
        return (self.numbers, self.cells) == (other.numbers, other.cells)

    def __len__(self):
        return len(self.cells)

    def __contains__(self, x):
        return _is_one_of(x, self.cells)


def check_numbers(numbers):
    """Raise NoScheme with the first item that is no number, or has a name again."""
    if not isinstance(numbers, list) or not numbers:
        raise NoScheme("numbers", None)
    names = []
    for at, number in enumerate(numbers):
        if at >= Scheme.NUMBERS or not is_number(number) or number[0] in names:
            raise NoScheme("numbers", at)
        names.append(number[0])


def is_number(thing):
    """Tell whether it is a tuple of a name, places and a kind."""
    if not isinstance(thing, tuple) or len(thing) != 3:
        return False
    name, places, kind = thing
    return is_name(name) and is_whole(places) and 1 <= places <= MOST_PLACES and kind in KINDS


def _check_cells(cells, numbers):
    """Raise NoScheme with the first item that is no cell, or if a place of the numbers has none."""
    if not isinstance(cells, list):
        raise NoScheme("cells", None)
    known = [(name, place) for name, places, _ in numbers for place in range(places)]
    for at, cell in enumerate(cells):
        if at >= Scheme.CELLS or not _is_one_of(cell, known):
            raise NoScheme("cells", at)
    if any([place not in cells for place in known]):
        raise NoScheme("cells", None)


def _is_one_of(thing, cells):
    """Tell whether it is one of these pairs of a name and a place."""
    if not isinstance(thing, tuple) or len(thing) != 2:
        return False
    # True and False equal 1 and 0, but they are no places.
    return is_whole(thing[1]) and thing in cells


def _is_renaming(names, known):
    """Tell whether it is a dict from just the known names to as many other names."""
    if not isinstance(names, dict) or len(names) != len(known):
        return False
    if not all([name in names and is_name(names[name]) for name in known]):
        return False
    return len({names[name] for name in known}) == len(known)
