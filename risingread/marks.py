"""Marks that come round: a free number of one place whose digit is the version modulo a small number."""

from risingread.checks import is_whole
from risingread.copies import copied
from risingread.errors import NoMark, TooMany
from risingread.facts import links_of
from risingread.judge import broken_by, why
from risingread.patterns import patterns, top_of
from risingread.plans import Plan, check_promise
from risingread.schemes import Scheme
from risingread.weavings import events_of

LEAST_MODULUS = 2
GREATEST_MODULUS = 9
MOST_LOOKS = 5


class Marks:
    """A mark of a plan that comes round by a modulus, and the twin in which it is strict."""

    def __init__(self, plan, name, modulus):
        if not _is_mark(plan.scheme, name) or not _is_modulus(modulus):
            raise NoMark(name)
        self.plan = plan
        self.name = name
        self.modulus = modulus
        self.twin = _twin_of(plan, name)

    def limit(self, promise):
        """Return how far apart before and after may be for the promise to hold, None if they may be at any."""
        found = self._least_breach(promise)
        return None if found is None else found[1][-1] - 1

    def example(self, promise):
        """Return a run in which they are one further apart and which breaks the promise, or None."""
        found = self._least_breach(promise)
        if found is None:
            return None
        pattern, numbers = found
        levels, _ = broken_by(_untested(self.plan, self.name), pattern, promise)
        versions = _spread(self.plan.scheme, levels, numbers)
        return self._marked(versions), events_of(self.plan, [numbers[level] for level in pattern])

    def digit(self, version):
        """Return the digit of the mark in the version."""
        return version % self.modulus

    def __call__(self, versions):
        return self._marked(versions)

    def _marked(self, versions):
        """Return the tuple of the versions, each with the mark's digit."""
        marked = []
        for number, version in enumerate(versions):
            more = copied(version)
            more[self.name] = (self.digit(number),)
            marked.append(more)
        return tuple(marked)

    def _least_breach(self, promise):
        """Return a pattern that breaks the promise and the versions of its levels, the last one as low as can be."""
        check_promise(self.plan, promise)
        if len(self.plan) > MOST_LOOKS:
            raise TooMany(MOST_LOOKS)
        plain = _untested(self.plan, self.name)
        best = None
        for pattern in patterns(plain):
            if why(plain, pattern, promise) is None:
                alike = [(x, y) for _, x, y in links_of(self.plan, pattern, self.name, ())]
                numbers = _least_numbers(pattern, alike, self.modulus)
                if numbers is not None and (best is None or numbers[-1] < best[1][-1]):
                    best = (pattern, numbers)
        return best


def _is_mark(scheme, name):
    """Tell whether it is the name of a free number of one place."""
    return (name, 1, "free") in scheme.numbers


def _is_modulus(thing):
    """Tell whether a mark can come round by it."""
    return is_whole(thing) and LEAST_MODULUS <= thing <= GREATEST_MODULUS


def _twin_of(plan, name):
    """Return the plan in which the mark is strict."""
    numbers = [(known, places, "strict" if known == name else kind) for known, places, kind in plan.scheme.numbers]
    return Plan(Scheme(numbers, list(plan.scheme.cells)), list(plan.looks), list(plan.tests))


def _untested(plan, name):
    """Return the plan without the tests of the mark."""
    tests = [test for test in plan.tests if plan.place_at(test[0])[0] != name]
    return Plan(plan.scheme, list(plan.looks), tests)


def _least_numbers(pattern, alike, modulus):
    """Return the versions of the levels, the last one as low as can be, or None if there are none.

    alike are pairs of levels whose versions are to be equal by the modulus.
    """
    rows = [(0,)]
    for level in range(1, top_of(pattern) + 1):
        # More than one round ahead of the last version is never needed.
        steps = [1] if _is_next(pattern, level) else list(range(1, modulus + 1))
        rows = [row + (row[-1] + step,) for row in rows for step in steps]
        asked = [(x, y) for x, y in alike if level in (x, y) and x <= level and y <= level]
        rows = [row for row in rows if all([(row[x] - row[y]) % modulus == 0 for x, y in asked])]
    best = None
    for row in rows:
        if best is None or row[-1] < best[-1]:
            best = row
    return best


def _is_next(pattern, level):
    """Tell whether a look at the level below comes behind a look at this level."""
    return level - 1 in pattern[pattern.index(level):]


def _spread(scheme, levels, numbers):
    """Return the list of all versions: those of the levels with these numbers, and what lies between them."""
    versions = []
    for level, version in enumerate(levels):
        ends = numbers[level + 1] if level + 1 < len(numbers) else numbers[level] + 1
        for more in range(ends - numbers[level]):
            versions.append({name: _shifted(version[name], kind, more) for name, _, kind in scheme.numbers})
    return versions


def _shifted(digits, kind, more):
    """Return the digits so many versions behind the level, none of them what a reading of a level hears."""
    if kind != "strict":
        return digits
    # At most one round lies between two levels, so as much room is enough.
    return digits[:-1] + (digits[-1] * GREATEST_MODULUS + more,)
