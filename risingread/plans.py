"""Plans: which cells are looked at, in which order, and which looks must have heard the same digit."""

from risingread.checks import is_numbered
from risingread.errors import NoLook, NoPlace, NoPlan, NoPromise, NoScheme
from risingread.schemes import Scheme, is_number

MIRRORED = {"below": "above", "above": "below"}


class Order:
    """The cells that are looked at, in the order of looking."""

    def __init__(self, looks):
        self.looks = tuple(looks)

    def position(self, look):
        """Return the place of the look's cell in the order of writing."""
        if not is_numbered(look, len(self.looks)):
            raise NoLook("there is no such look")
        # Cells are numbered in the order of writing.
        return self.looks[look]


class Table:
    """The pairs of looks that must have heard the same digit."""

    def __init__(self, tests):
        self.tests = tuple(tests)


class Plan(Order, Table):
    """The looks at the cells of a scheme, with their tests."""

    LOOKS = 8
    TESTS = 8

    def __init__(self, scheme, looks, tests):
        _check_looks(looks, scheme)
        _check_tests(tests, [scheme.cells[cell] for cell in looks])
        Order.__init__(self, looks)
        Table.__init__(self, tests)
        self.scheme = scheme

    @staticmethod
    def layout(name, places, single):
        """Return the scheme and the plan in which one place has one cell, and each other one two."""
        if not is_number((name, places, "strict")):
            raise NoScheme("numbers", 0)
        if not is_numbered(single, places):
            raise NoPlace(single)
        cells = [(name, place) for place in _layout_places(places, single)]
        scheme = Scheme([(name, places, "strict")], cells)
        looks = _layout_looks(scheme, name, single)
        return scheme, Plan(scheme, looks, _pairs([cells[cell] for cell in looks]))

    # A method that is listed for a class stands in the class itself, not in a base class alone.
    def position(self, look):
        """Return the place of the look's cell in the order of writing."""
        return super().position(look)

    def place_at(self, look):
        """Return the name and the place that the look looks at."""
        return self.scheme.cells[self.position(look)]

    def is_reading(self, thing):
        """Tell whether it is a name with a look at each place of the number."""
        if not isinstance(thing, tuple) or len(thing) != 2:
            return False
        name, chosen = thing
        if not isinstance(chosen, tuple) or len(chosen) == 0:
            return False
        if not all([self._is_at(look, (name, place)) for place, look in enumerate(chosen)]):
            return False
        return len(chosen) == self.scheme.places_of(name)

    def _is_at(self, thing, place):
        """Tell whether it is a look at this place of this number."""
        return is_numbered(thing, len(self.looks)) and self.place_at(thing) == place

    def is_promise(self, thing):
        """Tell whether it is a promise about the looks of the plan."""
        if not isinstance(thing, tuple) or len(thing) < 2:
            return False
        kind, *parts = thing
        if kind == "order":
            return len(parts) == 2 and self._are_ordered(parts[0], parts[1])
        if len(parts) > 1:
            return False
        if kind == "together":
            return self._is_choice(parts[0])
        if kind == "stood":
            return self.is_reading(parts[0])
        return kind in ("below", "above", "between") and self._is_rising(parts[0])

    def _is_rising(self, thing):
        """Tell whether it is a reading of a number that is not free."""
        return self.is_reading(thing) and self.scheme.kind_of(thing[0]) != "free"

    def _are_ordered(self, one, other):
        """Tell whether these are two readings of one number that is not free."""
        return self._is_rising(one) and self._is_rising(other) and one[0] == other[0]

    def _is_choice(self, thing):
        """Tell whether it is a tuple of two looks or more, ascending, each once."""
        if not isinstance(thing, tuple) or len(thing) < 2:
            return False
        if not all([is_numbered(look, len(self.looks)) for look in thing]):
            return False
        return all([one < other for one, other in zip(thing, thing[1:])])

    def mirror(self):
        """Return the plan with the cells and the looks in reverse order."""
        scheme = Scheme(list(self.scheme.numbers), list(self.scheme.cells[::-1]))
        looks = [len(scheme) - 1 - cell for cell in self.looks[::-1]]
        tests = [(self._mirrored(other), self._mirrored(one)) for one, other in self.tests]
        return Plan(scheme, looks, tests)

    def _mirrored(self, look):
        """Return the number that the look has in the mirror."""
        return len(self.looks) - 1 - look

    def _mirrored_reading(self, reading):
        """Return the reading in the mirror."""
        name, chosen = reading
        return name, tuple([self._mirrored(look) for look in chosen])

    def turned(self, promise):
        """Return the promise of the mirror that holds for it exactly if this one holds for the plan."""
        check_promise(self, promise)
        kind, *parts = promise
        if kind == "together":
            return kind, tuple([self._mirrored(look) for look in parts[0][::-1]])
        if kind == "order":
            return kind, self._mirrored_reading(parts[1]), self._mirrored_reading(parts[0])
        return MIRRORED.get(kind, kind), self._mirrored_reading(parts[0])

    def __eq__(self, other):
        if not isinstance(other, Plan):
            return NotImplemented
        return (self.scheme, self.looks, self.tests) == (other.scheme, other.looks, other.tests)

    def __len__(self):
        return len(self.looks)


def check_promise(plan, thing):
    """Raise NoPromise for what is no promise of the plan."""
    if not plan.is_promise(thing):
        raise NoPromise(thing)


def _check_looks(looks, scheme):
    """Raise NoPlan with the first item that is no number of a cell."""
    if not isinstance(looks, list) or len(looks) == 0:
        raise NoPlan("looks", None)
    for at, cell in enumerate(looks):
        if at >= Plan.LOOKS or not is_numbered(cell, len(scheme)):
            raise NoPlan("looks", at)


def _check_tests(tests, places):
    """Raise NoPlan with the first item that is no test of looks at these places, or is there again."""
    if not isinstance(tests, list):
        raise NoPlan("tests", None)
    for at, test in enumerate(tests):
        if at >= Plan.TESTS or not _is_test(test, places) or test in tests[:at]:
            raise NoPlan("tests", at)


def _is_test(thing, places):
    """Tell whether it is a pair of looks, one ahead of the other, at one of these places."""
    if not isinstance(thing, tuple) or len(thing) != 2:
        return False
    one, other = thing
    if not is_numbered(one, len(places)) or not is_numbered(other, len(places)):
        return False
    return one < other and places[one] == places[other]


def _layout_places(places, single):
    """Return the list of the places of a layout's cells, in the order of writing."""
    higher = list(range(single))
    lower = list(range(single + 1, places))
    return higher + lower[::-1] + [single] + lower + higher[::-1]


def _layout_looks(scheme, name, single):
    """Return the list of the cells that a layout looks at, in the order of looking."""
    cells = [scheme.cells_of(name, place) for place in range(scheme.places_of(name))]
    higher = cells[:single]
    lower = cells[single + 1:]
    looks = [pair[1] for pair in higher] + cells[single]
    if lower:
        looks = looks + [pair[0] for pair in lower] + [pair[1] for pair in lower[::-1]] + cells[single]
    return looks + [pair[0] for pair in higher[::-1]]


def _pairs(places):
    """Return the list of the pairs of looks at one place, ascending."""
    looks = range(len(places))
    return [(one, other) for one in looks for other in looks if one < other and places[one] == places[other]]


def come_out(tests, heard):
    """Tell whether for each test the two looks heard the same digit."""
    return all([heard[one] == heard[other] for one, other in tests])


def digits_in(reading, heard):
    """Return the tuple of the digits of a reading, of all that was heard."""
    return tuple([heard[look] for look in reading[1]])
