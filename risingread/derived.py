"""Derivations: steps that show what is forced, each from earlier ones."""

from risingread.checks import is_numbered, is_sequence
from risingread.errors import BadStep
from risingread.facts import is_given, links_of, needs_of, shown_by
from risingread.patterns import check_pattern, top_of

STEP_LENGTHS = {"tie": 4, "rise": 4, "chain": 5}


def shown(plan, pattern, name, steps, *, ties=()):
    """Return the list of the facts that the steps show, in order."""
    kind = plan.scheme.kind_of(name)
    places = plan.scheme.places_of(name)
    check_pattern(plan, pattern)
    if not is_sequence(steps):
        raise BadStep(0)
    links = links_of(plan, pattern, name, ties)
    found = []
    for at, step in enumerate(steps):
        if not _is_step(step, places, top_of(pattern)) or not _is_right(step, kind, links):
            raise BadStep(at)
        if not all([is_given(fact, found) for fact in needs_of(step)]):
            raise BadStep(at)
        found.append(shown_by(step))
    return found


def _is_step(thing, places, top):
    """Tell whether it is a word, a place and versions, as many as the word asks for."""
    if not isinstance(thing, tuple) or len(thing) == 0 or not isinstance(thing[0], str):
        return False
    if STEP_LENGTHS.get(thing[0], 0) != len(thing) or not is_numbered(thing[1], places):
        return False
    return all([is_numbered(version, top + 1) for version in thing[2:]])


def _is_right(step, kind, links):
    """Tell whether the step may be made if what it rests on is shown."""
    if step[0] == "tie":
        _, place, x, y = step
        return (place, x, y) in links or (place, y, x) in links
    if step[0] == "rise":
        return kind != "free" and step[3] == step[2] + 1
    return True
