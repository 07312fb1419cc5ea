"""Texts of plans, promises and runs, and the lines of a table."""

from risingread.checks import KINDS, is_decimal, is_name
from risingread.errors import BadText
from risingread.plans import Plan
from risingread.schemes import Scheme

MOST_FIGURES = 2
MOST_FIGURES_OF_DIGITS = 60
EVENTS = ("write", "look")
READINGS = ("below", "above", "between", "stood")


def show_plan(plan):
    """Return the four lines of a plan."""
    numbers = [f"{name} {places} {kind}" for name, places, kind in plan.scheme.numbers]
    cells = [f"{name} {place}" for name, place in plan.scheme.cells]
    tests = [f"{one} {other}" for one, other in plan.tests]
    lines = [["numbers"] + numbers, ["cells"] + cells, ["looks", _spaced(plan.looks)], ["tests"] + (tests or ["none"])]
    return "\n".join([" ".join(words) for words in lines])


def _spaced(numbers):
    """Return the numbers with spaces between."""
    return " ".join([str(number) for number in numbers])


def show_promise(promise):
    """Return the line of a promise."""
    kind, *parts = promise
    if kind == "together":
        return f"together {_spaced(parts[0])}"
    name, looks = parts[0]
    if kind == "order":
        return f"order {name} {_spaced(looks)} against {_spaced(parts[1][1])}"
    return f"{kind} {name} {_spaced(looks)}"


def show_run(run):
    """Return the lines of a run."""
    versions, events = run
    lines = [_show_version(version) for version in versions]
    lines.append(" ".join(["events", *events]))
    return "\n".join(lines)


def _show_version(version):
    """Return the line of a version, its names ascending."""
    words = ["version"]
    for name in sorted([str(name) for name in version]):
        words.extend([name, _dotted(version[name])])
    return " ".join(words)


def _dotted(numbers):
    """Return the numbers with points between."""
    return ".".join([str(number) for number in numbers])


def read_plan(text):
    """Return the plan that show_plan writes in this way."""
    lines = _lines_of(text)
    numbers = _read_line(lines, 0, "numbers", (), ("name", "number", "kind"))
    cells = _read_line(lines, 1, "cells", (), ("name", "number"))
    looks = _read_line(lines, 2, "looks", (), ("number",))
    tests = _read_tests(lines, 3)
    _check_end(lines, 4)
    return Plan(Scheme(in_groups(numbers, 3), in_groups(cells, 2)), looks, in_groups(tests, 2))


def _read_tests(lines, at):
    """Return the list of the numbers in the line of tests."""
    words = _words_at(lines, at)
    if words[:2] == ["tests", "none"]:
        if len(words) > 2:
            raise BadText(at, 2)
        return []
    return _read_line(lines, at, "tests", (), ("number", "number"))


def read_promise(text):
    """Return the promise that show_promise writes in this way."""
    lines = _lines_of(text)
    words = _words_at(lines, 0)
    if words[0] == "order":
        promise = _read_order(words)
    elif words[0] == "together":
        promise = ("together", tuple(_read_words(words, 0, 0, ("number",), ("number",))))
    elif words[0] in READINGS:
        promise = (words[0], _read_reading(words))
    else:
        raise BadText(0, 0)
    _check_end(lines, 1)
    return promise


def _read_reading(words):
    """Return the reading whose name and looks stand behind the first word."""
    name, *looks = _read_words(words, 0, 0, ("name",), ("number",))
    return name, tuple(looks)


def _read_order(words):
    """Return the promise of two readings in these words."""
    # The name may be the same word, and at least one look stands behind the name.
    ends = [number for number, word in enumerate(words) if number > 2 and word == "against"]
    name, looks = _read_reading(words[:ends[0]] if ends else words)
    if not ends:
        raise BadText(0, len(words))
    others = _read_words(words[ends[0]:], 0, ends[0], (), ("number",))
    return "order", (name, looks), (name, tuple(others))


def read_run(text):
    """Return the run that show_run writes in this way."""
    lines = _lines_of(text)
    versions = []
    while not versions or _words_at(lines, len(versions))[0] == "version":
        words = _read_line(lines, len(versions), "version", (), ("rising name", "digits"))
        versions.append({name: digits for name, digits in in_groups(words, 2)})
    events = _read_line(lines, len(versions), "events", (), ("event",))
    _check_end(lines, len(versions) + 1)
    return tuple(versions), tuple(events)


def _lines_of(text):
    """Return the list of the lines, each a list of words."""
    if not isinstance(text, str):
        raise BadText(0, 0)
    return [line.split(" ") for line in text.split("\n")]


def _words_at(lines, at):
    """Return the words of the line."""
    if at >= len(lines):
        raise BadText(len(lines), 0)
    return lines[at]


def _check_end(lines, many):
    """Raise BadText if there are more lines."""
    if len(lines) > many:
        raise BadText(many, 0)


def in_groups(values, many):
    """Return the list of the tuples of so many values."""
    return [tuple(values[at:at + many]) for at in range(0, len(values), many)]


def _read_line(lines, at, keyword, head, group):
    """Return the list of the values behind the keyword, in the line."""
    words = _words_at(lines, at)
    if words[0] != keyword:
        raise BadText(at, 0)
    return _read_words(words, at, 0, head, group)


def _read_words(words, at, first, head, group):
    """Return the list of the values behind the first word: the head once, the group once or more.

    at is the number of the line, first that of the first word in it.
    """
    values = []
    for number, word in enumerate(words[1:]):
        kind = head[number] if number < len(head) else group[(number - len(head)) % len(group)]
        if not _fits(kind, word, values):
            raise BadText(at, first + number + 1)
        values.append(_value_of(kind, word))
    more = len(values) - len(head)
    if more <= 0 or more % len(group) != 0:
        raise BadText(at, first + len(words))
    return values


def _fits(kind, word, values):
    """Tell whether the word is of this kind, behind these values."""
    if kind == "number":
        return is_decimal(word, MOST_FIGURES)
    if kind == "kind":
        return word in KINDS
    if kind == "event":
        return word in EVENTS
    if kind == "digits":
        return all([is_decimal(figures, MOST_FIGURES_OF_DIGITS) for figures in word.split(".")])
    # A rising name stands behind pairs of a name and digits.
    return is_name(word) and (kind == "name" or not values or values[-2] < word)


def _value_of(kind, word):
    """Return what a word of this kind tells."""
    if kind == "number":
        return int(word)
    if kind == "digits":
        return tuple([int(figures) for figures in word.split(".")])
    return word


def table(rows):
    """Return the list of the lines of a table: a pattern, the form of its why, and the number of steps."""
    return [_show_row(number, pattern, why) for number, (pattern, why) in enumerate(rows)]


def _show_row(number, pattern, why):
    """Return the line of one row."""
    levels = _dotted(pattern)
    word = why[0]
    many = _many_steps(why)
    return f"{number:>4} {levels:<15} {word:<5} {many:>4}"


def _many_steps(why):
    """Return how many steps all lists in the why have together."""
    if why[0] == "one":
        return 0
    if why[0] == "both":
        return _many_steps(why[1]) + _many_steps(why[2])
    if why[0] == "sides":
        return sum([len(part[-1]) for part in why[1]])
    return len(why[-1])
