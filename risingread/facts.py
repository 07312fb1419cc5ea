"""Facts about the digits of a number, and the steps that show them.

A fact (c, x, y) says that the digit of the place c at version x is at most that
at version y.
"""


def links_of(plan, pattern, name, ties):
    """Return the list of what is tied of the number: (c, x, y) for each test of it, then the ties."""
    links = []
    for one, other in plan.tests:
        tested, place = plan.place_at(one)
        if tested == name:
            links.append((place, pattern[one], pattern[other]))
    return links + list(ties)


def shown_by(step):
    """Return the fact that a step shows: its last version is at least its first one."""
    return step[1], step[2], step[-1]


def needs_of(step):
    """Return the list of the facts that a step rests on."""
    kind, place, one, *more = step
    if kind == "chain":
        return [(place, one, more[0]), (place, more[0], more[1])]
    if kind == "rise":
        return same_above(place, one, more[0])
    return []


def same_above(place, one, other):
    """Return the list of the facts that two versions are the same at each place above this one."""
    return [fact for above in range(place) for fact in ((above, one, other), (above, other, one))]


def is_given(fact, known):
    """Tell whether the fact is known, or needs no step."""
    return fact[1] == fact[2] or fact in known
