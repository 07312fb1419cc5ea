"""Lookers: they check a table row by row, or a run event by event, whatever it was found by."""

from risingread.checks import is_numbered, is_sequence
from risingread.derived import shown
from risingread.errors import BadRun, BadStep
from risingread.facts import is_given, same_above
from risingread.judge import Breaks, Holds
from risingread.patterns import is_pattern, patterns, top_of
from risingread.plans import Plan
from risingread.runs import play
from risingread.sides import facts_of_stood, see_one, sides_of, ties_above


def shows_row(plan, promise, pattern, why):
    """Tell whether the why shows that the pattern keeps the promise."""
    if not plan.is_promise(promise) or not is_pattern(plan, pattern):
        return False
    if _shows_tests(plan, pattern, why):
        return True
    if promise[0] == "together":
        return _is_form(why, "one", 1) and see_one(pattern, promise[1])
    if promise[0] == "stood":
        return _shows_stood(plan, pattern, promise[1], why)
    if promise[0] == "between":
        return _shows_both(plan, pattern, promise[1], why)
    return _shows_sides(plan, pattern, promise, why)


def shows_holds(plan, promise, rows):
    """Tell whether the rows show that each pattern keeps the promise."""
    return _show_rows(plan, promise, rows, list(patterns(plan)))


def shows_breaks(plan, promise, run):
    """Tell whether it is a run of the plan that breaks the promise."""
    if not plan.is_promise(promise):
        return False
    try:
        played = play(plan, run)
    except BadRun:
        return False
    return played.breaks(promise)


def shows_least(plan, promise, run, rows):
    """Tell whether the run breaks the promise, and the rows show that no run with fewer versions does."""
    if not shows_breaks(plan, promise, run):
        return False
    greatest = len(run[0]) - 2
    return _show_rows(plan, promise, rows, [pattern for pattern in patterns(plan) if top_of(pattern) <= greatest])


def shows(verdict):
    """Tell whether the rows or the run of a verdict show it."""
    if isinstance(verdict, Holds):
        return isinstance(verdict.plan, Plan) and shows_holds(verdict.plan, verdict.promise, verdict.rows)
    if isinstance(verdict, Breaks):
        return isinstance(verdict.plan, Plan) and shows_breaks(verdict.plan, verdict.promise, verdict.run)
    return False


def _show_rows(plan, promise, rows, known):
    """Tell whether these are rows of the known patterns, in their order, and each one shows it."""
    if not is_sequence(rows) or len(rows) != len(known):
        return False
    return all([_is_row_of(plan, promise, row, pattern) for row, pattern in zip(rows, known)])


def _is_row_of(plan, promise, row, pattern):
    """Tell whether it is a row of this pattern, and shows that the pattern keeps the promise."""
    if not isinstance(row, tuple) or len(row) != 2:
        return False
    return row[0] == pattern and shows_row(plan, promise, row[0], row[1])


def _is_form(thing, word, many):
    """Tell whether it is a tuple of so many items that begins with this word."""
    return isinstance(thing, tuple) and len(thing) == many and thing[0] == word


def _show(plan, pattern, name, steps, ties, facts):
    """Tell whether each step follows from earlier ones, and they show all of the facts."""
    try:
        found = shown(plan, pattern, name, steps, ties=ties)
    except BadStep:
        return False
    return all([is_given(fact, found) for fact in facts])


def _show_clash(plan, pattern, name, x, steps, ties):
    """Tell whether the steps show that x and x + 1 of a strict number are the same at all places."""
    if not is_numbered(x, top_of(pattern)) or plan.scheme.kind_of(name) != "strict":
        return False
    return _show(plan, pattern, name, steps, ties, same_above(plan.scheme.places_of(name), x, x + 1))


def _shows_tests(plan, pattern, why):
    """Tell whether the why shows that no attempt passes with this pattern."""
    if not _is_form(why, "tests", 4):
        return False
    _, name, x, steps = why
    if name not in [known for known, _, _ in plan.scheme.numbers]:
        return False
    return _show_clash(plan, pattern, name, x, steps, ())


def _shows_stood(plan, pattern, reading, why):
    """Tell whether the why shows that the reading heard the number in one of the versions."""
    if not _is_form(why, "stood", 3):
        return False
    _, version, steps = why
    if not is_numbered(version, top_of(pattern) + 1):
        return False
    return _show(plan, pattern, reading[0], steps, (), facts_of_stood(pattern, reading, version))


def _shows_both(plan, pattern, reading, why):
    """Tell whether the why shows that what the reading heard is neither too little nor too much."""
    if not _is_form(why, "both", 3):
        return False
    _, one, two = why
    return _keeps(plan, pattern, ("below", reading), one) and _keeps(plan, pattern, ("above", reading), two)


def _keeps(plan, pattern, promise, why):
    """Tell whether a part of a why for two promises shows this one."""
    return _shows_tests(plan, pattern, why) or _shows_sides(plan, pattern, promise, why)


def _shows_sides(plan, pattern, promise, why):
    """Tell whether the why shows, place by place, that the left side is at most the right one."""
    if not _is_form(why, "sides", 2) or not is_sequence(why[1]):
        return False
    parts = why[1]
    sides = sides_of(pattern, promise)
    if not 1 <= len(parts) <= len(sides):
        return False
    if not all([_shows_walk(plan, pattern, promise, place, part) for place, part in enumerate(parts[:-1])]):
        return False
    place = len(parts) - 1
    if _shows_end(plan, pattern, promise, place, parts[-1]):
        return True
    return len(parts) == len(sides) and _shows_walk(plan, pattern, promise, place, parts[-1])


def _shows_walk(plan, pattern, promise, place, part):
    """Tell whether the part shows that the left side's digit at the place is at most the right one's."""
    if not _is_form(part, "walk", 2):
        return False
    sides = sides_of(pattern, promise)
    fact = (place, sides[place][0], sides[place][1])
    return _show(plan, pattern, promise[1][0], part[1], ties_above(sides, place), [fact])


def _shows_end(plan, pattern, promise, place, part):
    """Tell whether the part shows that no attempt passes with both sides equal at all places above this one."""
    if not _is_form(part, "tests", 3):
        return False
    ties = ties_above(sides_of(pattern, promise), place)
    return _show_clash(plan, pattern, promise[1][0], part[1], part[2], ties)
