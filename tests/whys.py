"""The tests' own rules: what steps show [33], and what a row shows [39]."""


def level_of(thing, many):
    """Whether it is a whole number from 0 to one less than this."""
    return type(thing) is int and 0 <= thing < many


def links_of(plan, pattern, name, ties):
    """What is tied of the number: by its tests and by the ties."""
    found = set(ties)
    for one, other in plan.tests:
        known, place = plan.scheme.cells[plan.looks[one]]
        if known == name:
            found.add((place, pattern[one], pattern[other]))
    return found


def fact_of(step, places, top, kind, links, known):
    """The fact that a step shows, or None if it does not follow from what is known."""
    if type(step) is not tuple or len(step) not in (4, 5) or type(step[0]) is not str:
        return None
    if not level_of(step[1], places) or not all(level_of(item, top + 1) for item in step[2:]):
        return None
    word, c, x, y = step[:4]
    if len(step) == 5:
        z = step[4]
        is_good = word == "chain" and {(c, x, y), (c, y, z)} <= known
        return (c, x, z) if is_good else None
    if word == "tie":
        return (c, x, y) if links & {(c, x, y), (c, y, x)} else None
    above = {fact for b in range(c) for fact in ((b, x, x + 1), (b, x + 1, x))}
    return (c, x, y) if word == "rise" and kind != "free" and y == x + 1 and above <= known else None


def steps_show(plan, pattern, name, steps, ties, facts):
    """Whether each step follows from earlier ones, and they show all of the facts."""
    number = [number for number in plan.scheme.numbers if number[0] == name][0]
    if type(steps) not in (tuple, list):
        return False
    top = max(pattern)
    links = links_of(plan, pattern, name, ties)
    known = {(c, x, x) for c in range(number[1]) for x in range(top + 1)}
    for step in steps:
        fact = fact_of(step, number[1], top, number[2], links, known)
        if fact is None:
            return False
        known.add(fact)
    return set(facts) <= known


def is_form(thing, word, many):
    """Whether it is a tuple of so many items that begins with the word."""
    return type(thing) is tuple and len(thing) == many and type(thing[0]) is str and thing[0] == word


def show_one_block(plan, pattern, name, x, steps, ties):
    """Whether the steps show that x and x + 1 of a strict number are the same at all places."""
    known = {known: places for known, places, kind in plan.scheme.numbers if kind == "strict"}
    if type(name) is not str or name not in known or not level_of(x, max(pattern)):
        return False
    facts = [fact for c in range(known[name]) for fact in ((c, x, x + 1), (c, x + 1, x))]
    return steps_show(plan, pattern, name, steps, ties, facts)


def show_tests(plan, pattern, why):
    """Whether it is a why of the form "tests"."""
    return is_form(why, "tests", 4) and show_one_block(plan, pattern, why[1], why[2], why[3], ())


def sides(promise, pattern):
    """The left and the right version for each place."""
    levels = [[pattern[look] for look in looks] for _, looks in promise[1:]]
    if promise[0] == "order":
        return list(zip(*levels))
    return [(0, level) if promise[0] == "below" else (level, max(pattern)) for level in levels[0]]


def show_sides(plan, pattern, promise, why):
    """Whether it is a why of the form "sides"."""
    if not is_form(why, "sides", 2) or type(why[1]) not in (tuple, list):
        return False
    wanted = sides(promise, pattern)
    name = promise[1][0]
    for c, part in enumerate(why[1]):
        ties = [(b, left, right) for b, (left, right) in enumerate(wanted[:c])]
        is_last = c == len(why[1]) - 1
        if c >= len(wanted):
            return False
        if is_form(part, "walk", 2) and steps_show(plan, pattern, name, part[1], ties, [(c,) + tuple(wanted[c])]):
            if is_last:
                return c == len(wanted) - 1
        elif not is_last or not is_form(part, "tests", 3):
            return False
        else:
            return show_one_block(plan, pattern, name, part[1], part[2], ties)
    return False


def show_row(plan, promise, pattern, why):
    """Whether the row shows by the words of [39] that the pattern keeps the promise; both are such of the plan."""
    if show_tests(plan, pattern, why):
        return True
    if promise[0] == "together":
        return is_form(why, "one", 1) and len({pattern[look] for look in promise[1]}) == 1
    if promise[0] == "between":
        halves = [("below", promise[1]), ("above", promise[1])]
        return is_form(why, "both", 3) and all(
            show_tests(plan, pattern, one) or show_sides(plan, pattern, half, one)
            for half, one in zip(halves, why[1:]))
    if promise[0] != "stood":
        return show_sides(plan, pattern, promise, why)
    if not is_form(why, "stood", 3) or not level_of(why[1], max(pattern) + 1):
        return False
    levels = [pattern[look] for look in promise[1][1]]
    facts = [fact for c, r in enumerate(levels) for fact in ((c, r, why[1]), (c, why[1], r))]
    return steps_show(plan, pattern, promise[1][0], why[2], (), facts)
