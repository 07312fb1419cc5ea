"""What a pattern forces of the digits of one number."""

from risingread.errors import NoRight, NotForced
from risingread.facts import is_given, links_of, needs_of, same_above, shown_by
from risingread.patterns import check_pattern, top_of


class Forced:
    """The digits of a number that are forced to be equal, or at most others."""

    def __init__(self, plan, pattern, name, *, ties=(), less=None):
        self.kind = plan.scheme.kind_of(name)
        self.places = plan.scheme.places_of(name)
        check_pattern(plan, pattern)
        self.top = top_of(pattern)
        self.ties = ties
        self.less = less
        self.known = _all_steps(self.kind, self.places, self.top, links_of(plan, pattern, name, ties))

    def at_most(self, place, x, y):
        """Tell whether the digit at version x is forced to be at most that at version y."""
        return is_given((place, x, y), self.known)

    def same(self, place, x, y):
        """Tell whether the digits at the two versions are forced to be equal."""
        return self.at_most(place, x, y) and self.at_most(place, y, x)

    def classes(self, place):
        """Return the tuple of the classes of versions that are the same, by their least versions."""
        found = []
        for version in range(self.top + 1):
            alike = tuple([other for other in range(self.top + 1) if self.same(place, version, other)])
            if alike[0] == version:
                found.append(alike)
        return tuple(found)

    def blocks(self, place):
        """Return the tuple of the blocks: the first and last of versions that are the same above."""
        found = []
        first = 0
        for version in range(self.top + 1):
            if version == self.top or not _are_joined(self.known, self.kind, place, version):
                found.append((first, version))
                first = version + 1
        return tuple(found)

    @property
    def clash(self):
        """The least version that is the same as the next one though it must be less, or None."""
        if self.kind == "strict":
            for version in range(self.top):
                if _are_joined(self.known, self.kind, self.places, version):
                    return version
        return None

    @property
    def is_barred(self):
        """Whether the less wish is against a forced fact."""
        if self.less is None:
            return False
        place, one, other = self.less
        return is_given((place, other, one), self.known)

    def __bool__(self):
        return self.clash is None and not self.is_barred

    def freest(self):
        """Return the row in which digits are equal only where they are forced to be."""
        if self.clash is not None or self.is_barred:
            raise NoRight(self.clash)
        columns = [self._digits_at(place) for place in range(self.places)]
        return tuple([tuple([column[version] for column in columns]) for version in range(self.top + 1)])

    def _digits_at(self, place):
        """Return a dict from each version to its freest digit at the place."""
        digits = {}
        rest = list(self.classes(place))
        digit = 0
        while rest:
            ready = [one for one in rest if not any([self._is_lesser(place, other, one) for other in rest])]
            for version in ready[0]:
                digits[version] = digit
            rest.remove(ready[0])
            digit = digit + 1
        return digits

    def _is_lesser(self, place, one, other):
        """Tell whether the one class must have a lesser digit than the other."""
        if one == other:
            return False
        if self.at_most(place, one[0], other[0]):
            return True
        return self.less is not None and self.less in [(place, x, y) for x in one for y in other]

    def steps(self, place, x, y):
        """Return a derivation of the fact, a tuple of steps."""
        if not self.at_most(place, x, y):
            raise NotForced(place, x, y)
        needed = [(place, x, y)]
        chosen = []
        # Each step rests on facts that are known earlier, so the way goes from the last one back.
        for fact, step in list(self.known.items())[::-1]:
            if fact in needed:
                chosen.append(step)
                needed.extend(needs_of(step))
        return tuple(chosen[::-1])


def _are_joined(known, kind, place, version):
    """Tell whether the version and the next one are in one block at the place."""
    if kind == "free":
        return False
    return all([fact in known for fact in same_above(place, version, version + 1)])


def _all_steps(kind, places, top, links):
    """Return a dict from each forced fact of two versions to a step that shows it, in an order to show them."""
    known = {}
    for place in range(places):
        firsts = _first_steps(known, kind, place, top, links)
        for step in firsts:
            known.setdefault(shown_by(step), step)
        _add_chains(known, place, top)
    return known


def _first_steps(known, kind, place, top, links):
    """Return the list of the steps that rest on no fact of this place."""
    found = []
    for tied, x, y in links:
        if tied == place and x != y:
            found.append(("tie", place, x, y))
            found.append(("tie", place, y, x))
    for version in range(top):
        if _are_joined(known, kind, place, version):
            found.append(("rise", place, version, version + 1))
    return found


def _add_chains(known, place, top):
    """Add a step for each fact of this place that follows from others of it."""
    versions = range(top + 1)
    for y in versions:
        lower = [x for x in versions if (place, x, y) in known]
        higher = [z for z in versions if (place, y, z) in known]
        for x in lower:
            for z in higher:
                if x != z:
                    known.setdefault((place, x, z), ("chain", place, x, y, z))
