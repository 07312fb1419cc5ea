"""What a promise asks of the versions of a pattern, place by place."""

from risingread.patterns import top_of


def sides_of(pattern, promise):
    """Return the list of the two versions, for each place, of which the left one is to be at most the right one."""
    kind, *readings = promise
    levels = [levels_of(pattern, reading) for reading in readings]
    if kind == "order":
        return list(zip(levels[0], levels[1]))
    if kind == "below":
        return [(0, level) for level in levels[0]]
    return [(level, top_of(pattern)) for level in levels[0]]


def levels_of(pattern, reading):
    """Return the list of the levels of the looks of a reading, place by place."""
    return [pattern[look] for look in reading[1]]


def ties_above(sides, place):
    """Return the tuple of the ties that make both sides equal at all places above this one."""
    return tuple([(above, left, right) for above, (left, right) in enumerate(sides[:place])])


def facts_of_stood(pattern, reading, version):
    """Return the list of the facts that what the reading heard is the number in this version."""
    found = []
    for place, level in enumerate(levels_of(pattern, reading)):
        found.extend([(place, level, version), (place, version, level)])
    return found


def see_one(pattern, looks):
    """Tell whether all of these looks see one version."""
    return len({pattern[look] for look in looks}) == 1
