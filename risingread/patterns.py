"""Patterns: which look sees an older version than which other one."""

from risingread.checks import is_numbered
from risingread.errors import NotPattern, NotSeen, Unlike


def is_pattern(plan, thing):
    """Tell whether it is a tuple of levels, one for each look, that could be seen."""
    if not isinstance(thing, tuple) or len(thing) != len(plan):
        return False
    if not all([is_numbered(level, len(plan)) for level in thing]):
        return False
    # No level is left out if below each one but 0 there is the next lower one.
    if not all([level == 0 or level - 1 in thing for level in thing]):
        return False
    return _first_breach(plan.looks, thing) is None


def check_pattern(plan, thing):
    """Raise NotPattern for what is no pattern of the plan."""
    if not is_pattern(plan, thing):
        raise NotPattern("this is no pattern of the plan")


def top_of(pattern):
    """Return the greatest level of a pattern."""
    return len(set(pattern)) - 1


def _least_behind(looks, one, other, version):
    """Return the least version that a look can see if one ahead of it has seen this one."""
    return version - 1 if looks[one] < looks[other] else version


def _first_breach(looks, seen):
    """Return the first pair of looks that cannot have seen these versions, or None."""
    for one, version in enumerate(seen):
        for other in range(one + 1, len(looks)):
            if seen[other] < _least_behind(looks, one, other, version):
                return one, other
    return None


def patterns(plan):
    """Yield all patterns of the plan, by their greatest level and then ascending."""
    for top in range(len(plan)):
        for pattern in _patterns_up_to(plan.looks, top):
            yield pattern


def _patterns_up_to(looks, top):
    """Return the list of the patterns with this greatest level, ascending."""
    found = [()]
    for left in range(len(looks) - 1, -1, -1):
        longer = []
        for levels in found:
            for level in range(_least_next(looks, levels), top + 1):
                if _many_missing(levels + (level,), top) <= left:
                    longer.append(levels + (level,))
        found = longer
    return found


def _least_next(looks, levels):
    """Return the least level that the look behind these levels can have."""
    least = 0
    for look, level in enumerate(levels):
        bound = _least_behind(looks, look, len(levels), level)
        if bound > least:
            least = bound
    return least


def _many_missing(levels, top):
    """Return how many levels up to the greatest one do not occur."""
    return len([level for level in range(top + 1) if level not in levels])


def how_many(plan):
    """Return the list of the numbers of patterns with the greatest level 0, 1, and so on."""
    # The last one is never 0: in each plan the levels can rise with every look.
    return [len(_patterns_up_to(plan.looks, top)) for top in range(len(plan))]


def pattern_of(plan, seen):
    """Return the pattern of the versions that the looks have seen."""
    breach = _first_breach(plan.looks, seen)
    if breach is not None:
        raise NotSeen(breach[0], breach[1])
    versions = sorted(set(seen))
    return tuple([versions.index(version) for version in seen])


def all_in(plan, other):
    """Tell whether each pattern of the plan is one of the other plan."""
    return first_beyond(plan, other) is None


def first_beyond(plan, other):
    """Return the first pattern of the plan that is none of the other plan, or None."""
    if len(plan) != len(other):
        raise Unlike("the plans have unlike numbers of looks")
    for pattern in patterns(plan):
        if not is_pattern(other, pattern):
            return pattern
    return None
