"""Weavings: at which moments of the writing the looks are made."""

from risingread.checks import is_numbered, is_sequence, is_whole
from risingread.errors import NotEvents, NotMoments
from risingread.patterns import check_pattern
from risingread.versions import version_in


class Weaving:
    """The moment of each look of a plan: how many writes are done by then."""

    def __init__(self, plan, *moments):
        _check_moments(moments, len(plan))
        self.plan = plan
        self.moments = moments

    @property
    def ages(self):
        """The tuple of the versions that the looks see."""
        many = len(self.plan.scheme)
        looks = self.plan.looks
        return tuple([version_in(cell, moment, many) for cell, moment in zip(looks, self.moments)])

    @property
    def events(self):
        """The tuple of the writes and looks in their order, up to the last look."""
        events = []
        done = 0
        for moment in self.moments:
            events.extend(["write"] * (moment - done))
            events.append("look")
            done = moment
        return tuple(events)

    def __getitem__(self, at):
        if not is_numbered(at, len(self.moments)):
            raise NotMoments(at)
        return self.moments[at]

    def __iter__(self):
        raise TypeError("a weaving is asked look by look")

    def __len__(self):
        return len(self.events)

    def __eq__(self, other):
        if not isinstance(other, Weaving):
            return NotImplemented
        return (self.plan, self.moments) == (other.plan, other.moments)

    def __add__(self, other):
        if not is_whole(other):
            return NotImplemented
        return _later(self, other)

    def __radd__(self, other):
        if not is_whole(other):
            return NotImplemented
        return _later(self, other)

    @classmethod
    def earliest(cls, plan, pattern):
        """Return the weaving of the pattern in which each look has its least moment."""
        check_pattern(plan, pattern)
        moments = _earliest(plan, pattern)
        return cls(plan, *moments)

    @classmethod
    def latest(cls, plan, pattern):
        """Return the weaving of the pattern in which each look has its greatest moment."""
        check_pattern(plan, pattern)
        moments = _latest(plan, pattern)
        return cls(plan, *moments)

    @classmethod
    def of(cls, plan, events):
        """Return the weaving with these events."""
        moments = _moments_of(events, len(plan))
        return cls(plan, *moments)


def _check_moments(moments, many):
    """Raise NotMoments with the first item that cannot be one of so many moments."""
    for at, moment in enumerate(moments):
        if at >= many or not is_whole(moment) or moment < 0:
            raise NotMoments(at)
        if at > 0 and moment < moments[at - 1]:
            raise NotMoments(at)
    if len(moments) < many:
        raise NotMoments(many)


def _later(weaving, by):
    """Return the weaving behind so many whole versions more."""
    more = by * len(weaving.plan.scheme)
    moments = [moment + more for moment in weaving.moments]
    return Weaving(weaving.plan, *moments)


def _moments_of(events, many):
    """Return the list of the moments of so many looks; raise NotEvents if these are no such events."""
    if not is_sequence(events):
        raise NotEvents(0)
    moments = []
    writes = 0
    for at, event in enumerate(events):
        if event == "write":
            writes = writes + 1
        elif event == "look" and len(moments) < many:
            moments.append(writes)
        else:
            raise NotEvents(at)
    if len(moments) < many or writes > moments[-1]:
        raise NotEvents(len(events))
    return moments


def _first_moments(plan, seen):
    """Return the list of the first moments at which the cells of the looks hold these versions."""
    many = len(plan.scheme)
    return [max(0, (version - 1) * many + cell + 1) for cell, version in zip(plan.looks, seen)]


def _last_moments(plan, pattern):
    """Return the list of the last moments at which the cells of the looks hold the levels."""
    many = len(plan.scheme)
    return [level * many + cell for cell, level in zip(plan.looks, pattern)]


def _earliest(plan, seen):
    """Return the list of the least moments that do not fall and at which the looks see these versions."""
    moments = []
    for first in _first_moments(plan, seen):
        if moments and moments[-1] > first:
            first = moments[-1]
        moments.append(first)
    return moments


def _latest(plan, pattern):
    """Return the list of the greatest moments that do not fall."""
    moments = []
    for last in _last_moments(plan, pattern)[::-1]:
        if moments and moments[-1] < last:
            last = moments[-1]
        moments.append(last)
    return moments[::-1]


def weaving_of(plan, pattern):
    """Return the events of the earliest weaving of the pattern."""
    return Weaving.earliest(plan, pattern).events


def events_of(plan, seen):
    """Return the events of the earliest weaving in which the looks see these versions."""
    moments = _earliest(plan, seen)
    return Weaving(plan, *moments).events


def weavings_of(plan, pattern):
    """Yield all weavings whose looks see just the levels of the pattern, ascending by moments."""
    check_pattern(plan, pattern)
    firsts = _earliest(plan, pattern)
    lasts = _latest(plan, pattern)
    moments = firsts
    while moments is not None:
        yield Weaving(plan, *moments)
        moments = _following(moments, firsts, lasts)


def _following(moments, firsts, lasts):
    """Return the list of moments that comes next, or None behind the last one."""
    for look in range(len(moments) - 1, -1, -1):
        if moments[look] < lasts[look]:
            moment = moments[look] + 1
            return moments[:look] + [moment] + [moment if moment > first else first for first in firsts[look + 1:]]
    return None
