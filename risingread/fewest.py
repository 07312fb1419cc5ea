"""Fewest cells and looks: torn contents, full plans, and the shortest rows of looks."""

from risingread.checks import is_sequence, is_whole
from risingread.copies import copied
from risingread.errors import NoPromise, TooMany
from risingread.judge import judge
from risingread.lookers import shows_breaks, shows_holds
from risingread.plans import Plan
from risingread.versions import first_fallen, is_version

AIMS = ("below", "above", "between", "stood")
MOST_CELLS = 4


class Torn:
    """Two versions, and a moment amid the writing of the second one, at which the cells seem to hold a third one."""

    def __init__(self, versions, moment, digits):
        self.versions = copied(versions)
        self.moment = copied(moment)
        self.digits = copied(digits)

    def __eq__(self, other):
        if not isinstance(other, Torn):
            return NotImplemented
        return (self.versions, self.moment, self.digits) == (other.versions, other.moment, other.digits)


class Fewest:
    """The shortest row of looks that keeps a promise, with what shows that no row ahead of it does."""

    def __init__(self, looks, table, broken):
        self.looks = copied(looks)
        self.table = copied(table)
        self.broken = copied(broken)

    def __eq__(self, other):
        if not isinstance(other, Fewest):
            return NotImplemented
        return (self.looks, self.table, self.broken) == (other.looks, other.table, other.broken)


def torn(scheme, name):
    """Return the first torn contents of the scheme for the number, or None."""
    places = range(scheme.places_of(name))
    others = [other for other, _, kind in scheme.numbers if other != name and kind == "strict"]
    for moment in range(1, len(scheme)):
        pairs = [(one, other) for one in places for other in places
                 if one < other and _are_parted(scheme, name, moment, one, other)]
        rising = [(other, _first_settled(scheme, other, moment)) for other in others]
        if pairs and all([place is not None for _, place in rising]):
            return _torn_at(scheme, name, moment, pairs[0], rising)
    return None


def _is_written(scheme, name, place, moment):
    """Tell whether all cells of the place are written by then; None if just some of them are."""
    cells = scheme.cells_of(name, place)
    if cells[-1] < moment:
        return True
    return False if cells[0] >= moment else None


def _are_parted(scheme, name, moment, one, other):
    """Tell whether all cells of the one place are written by then, and none of the other one."""
    states = (_is_written(scheme, name, one, moment), _is_written(scheme, name, other, moment))
    return states in ((True, False), (False, True))


def _first_settled(scheme, name, moment):
    """Return the first place of which all cells are written by then, or none, or None."""
    for place in range(scheme.places_of(name)):
        if _is_written(scheme, name, place, moment) is not None:
            return place
    return None


def _torn_at(scheme, name, moment, pair, rising):
    """Return the torn contents with this pair of parted places, and these places of other numbers that rise."""
    higher, lower = pair
    first = {(name, lower): 1}
    second = {place: 1 for place in [(name, higher)] + rising}
    versions = (_version_with(scheme, first), _version_with(scheme, second))
    return Torn(versions, moment, _heard(scheme, name, _standing(scheme, versions, moment)))


def _version_with(scheme, digits):
    """Return the version with these digits, and 0 at all other places."""
    return {name: tuple([digits.get((name, place), 0) for place in range(places)])
            for name, places, _ in scheme.numbers}


def _standing(scheme, versions, moment):
    """Return the list of the digits of the cells when so many writes of the second version are done."""
    return [versions[1 if cell < moment else 0][name][place] for cell, (name, place) in enumerate(scheme.cells)]


def _heard(scheme, name, standing):
    """Return the tuple of the digits of the first cell of each place."""
    return tuple([standing[scheme.cells_of(name, place)[0]] for place in range(scheme.places_of(name))])


def shows_torn(scheme, name, thing):
    """Tell whether it is torn contents of the scheme for the number."""
    # Only the scheme can be asked for a name that may be anything: it raises NoName.
    scheme.kind_of(name)
    if not isinstance(thing, Torn) or not _are_versions(scheme, thing.versions):
        return False
    if not is_whole(thing.moment) or not 1 <= thing.moment < len(scheme):
        return False
    standing = _standing(scheme, thing.versions, thing.moment)
    if not _are_single(scheme, standing):
        return False
    heard = _heard(scheme, name, standing)
    return _is_row(thing.digits, heard) and heard not in [version[name] for version in thing.versions]


def _are_versions(scheme, thing):
    """Tell whether it is a pair of versions, of which the second one may follow the first one."""
    if not isinstance(thing, tuple) or len(thing) != 2:
        return False
    if not all([is_version(scheme, version) for version in thing]):
        return False
    return first_fallen(scheme, thing[0], thing[1]) is None


def _are_single(scheme, standing):
    """Tell whether all cells of each place hold one digit."""
    places = [(name, place) for name, many, _ in scheme.numbers for place in range(many)]
    return all([len({standing[cell] for cell in scheme.cells_of(name, place)}) == 1 for name, place in places])


def _is_row(thing, row):
    """Tell whether it is just this tuple of whole numbers."""
    # True and False equal 1 and 0, but they are no whole numbers.
    return isinstance(thing, tuple) and all([is_whole(item) for item in thing]) and thing == row


def full_plan(scheme, looks):
    """Return the plan of the looks in which each look is tested against the next one at the same place."""
    plain = Plan(scheme, looks, [])
    tests = []
    for look in range(len(plain)):
        place = plain.place_at(look)
        behind = [other for other in range(look + 1, len(plain)) if plain.place_at(other) == place]
        tests.extend([(look, other) for other in behind[:1]])
    return Plan(scheme, looks, tests)


def first_reading(plan, name):
    """Return the reading of the first look at each place of the number, or None."""
    chosen = []
    for known, places, _ in plan.scheme.numbers:
        if known == name:
            for place in range(places):
                looks = [look for look in range(len(plan)) if plan.place_at(look) == (name, place)]
                chosen.extend(looks[:1])
    reading = (name, tuple(chosen))
    return reading if plan.is_reading(reading) else None


def fewest_looks(scheme, name, aim, most):
    """Return the first row of looks, of all with at most so many, whose full plan keeps the aim."""
    kind = scheme.kind_of(name)
    if not _is_aim(kind, aim):
        raise NoPromise(aim)
    if len(scheme) > MOST_CELLS:
        raise TooMany(MOST_CELLS)
    broken = []
    for row in _rows_of(scheme, name, most):
        plan = full_plan(scheme, list(row))
        verdict = judge(plan, (aim, first_reading(plan, name)))
        if bool(verdict):
            return Fewest(row, verdict.rows, tuple(broken))
        broken.append((row, verdict.run))
    return Fewest(None, (), tuple(broken))


def _is_aim(kind, aim):
    """Tell whether it is what a reading of a number of this kind may be promised."""
    return aim in AIMS and (kind != "free" or aim == "stood")


def _rows_of(scheme, name, most):
    """Return the list of the rows that are gone through, by their length and then ascending."""
    places = [(name, place) for place in range(scheme.places_of(name))]
    found = []
    rows = [()]
    for _ in range(most):
        rows = [row + (cell,) for row in rows for cell in range(len(scheme)) if row[-1:] != (cell,)]
        found.extend([row for row in rows if _look_at(scheme, row, places)])
    return found


def _look_at(scheme, row, places):
    """Tell whether the row has a look at each of the places."""
    seen = [scheme.cells[cell] for cell in row]
    return all([place in seen for place in places])


def shows_fewest(scheme, name, aim, most, thing):
    """Tell whether it is a first row of looks that keeps the aim, with what shows it."""
    kinds = [kind for known, _, kind in scheme.numbers if known == name]
    if not kinds or not _is_aim(kinds[0], aim) or not is_whole(most) or not isinstance(thing, Fewest):
        return False
    rows = _rows_of(scheme, name, most)
    if thing.looks is None:
        return thing.table in ((), []) and _all_broken(scheme, name, aim, rows, thing.broken)
    ahead = [at for at, row in enumerate(rows) if _is_row(thing.looks, row)]
    if not ahead or not _all_broken(scheme, name, aim, rows[:ahead[0]], thing.broken):
        return False
    plan = full_plan(scheme, list(thing.looks))
    return shows_holds(plan, (aim, first_reading(plan, name)), thing.table)


def _all_broken(scheme, name, aim, rows, things):
    """Tell whether these are the rows in their order, each with a run that breaks the aim."""
    if not is_sequence(things) or len(things) != len(rows):
        return False
    return all([_is_broken(scheme, name, aim, row, thing) for row, thing in zip(rows, things)])


def _is_broken(scheme, name, aim, row, thing):
    """Tell whether it is a pair of this row and a run that breaks the aim."""
    if not isinstance(thing, tuple) or len(thing) != 2 or not _is_row(thing[0], row):
        return False
    plan = full_plan(scheme, list(row))
    return shows_breaks(plan, (aim, first_reading(plan, name)), thing[1])
