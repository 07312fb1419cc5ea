"""Changes of nested tuples: each place of them with something else in it."""

WORDS = ("tests", "sides", "walk", "stood", "both", "one", "tie", "rise", "chain", "n", "m", "look", "write", "")


def places_in(thing):
    """The ways to all parts of a nested tuple or list, the whole first."""
    found = [()]
    if isinstance(thing, (tuple, list)):
        for at, item in enumerate(thing):
            found.extend((at,) + way for way in places_in(item))
    return found


def part_at(thing, way):
    """The part at the end of a way."""
    for at in way:
        thing = thing[at]
    return thing


def with_part(thing, way, part):
    """The nested value with another part at the end of a way."""
    if not way:
        return part
    items = list(thing)
    items[way[0]] = with_part(items[way[0]], way[1:], part)
    return thing.__class__(items)


def others(part):
    """Other values that may stand in the place of a part."""
    if isinstance(part, str):
        return [word for word in WORDS if word != part] + [None, 0, (part,), [part], {part: 0}]
    if isinstance(part, int):
        return [number for number in (-1, 0, 1, 2, 3, 10 ** 59) if number != part] + [True, False, None, str(part), (part,)]
    if not isinstance(part, (tuple, list)):
        return [0, "n", (), []]
    kind = part.__class__
    found = [kind(part[:at] + part[at + 1:]) for at in range(len(part))]
    found.extend(kind(part[:at + 1] + part[at:]) for at in range(len(part)))
    found.extend(kind(part[:at] + part[at + 1:at + 2] + part[at:at + 1] + part[at + 2:]) for at in range(len(part) - 1))
    return found + [(list if kind is tuple else tuple)(part), None, 0, "", {}, {0: part}, True, kind([part])]


def changed(thing):
    """The nested value with each of its parts changed, one at a time."""
    return [with_part(thing, way, other) for way in places_in(thing) for other in others(part_at(thing, way))]
