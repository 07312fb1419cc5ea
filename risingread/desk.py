"""The desk: numbers, cells, looks and tests that are told line by line, and what is asked of them."""

from risingread.checks import is_decimal
from risingread.errors import NoLine, NoPlace, NoPlan, NoPromise, NoScheme
from risingread.judge import judge
from risingread.patterns import how_many
from risingread.plans import Plan
from risingread.schemes import Scheme, check_numbers
from risingread.texts import in_groups, show_run

MOST_FIGURES = 2

# What stands behind the first word, once, and then once or more: w for any word, n for a number.
FORMS = {
    "numbers": ("", "wnw"), "cells": ("", "wn"), "looks": ("", "n"), "tests": ("", "nn"), "layout": ("wnn", ""),
    "patterns": ("", ""), "together": ("", "n"),
    "below": ("w", "n"), "above": ("w", "n"), "between": ("w", "n"), "stood": ("w", "n"),
}


class Desk:
    """Keeps the parts of a plan, and does lines of words."""

    def __init__(self):
        self.numbers = None
        self.scheme = None
        self.plan = None

    def say(self, line):
        """Do the line, and return what it tells."""
        word, values = _read(line)
        try:
            return self._done(word, values)
        except NoScheme:
            return "refused NoScheme"
        except NoPlan:
            return "refused NoPlan"
        except NoPlace:
            return "refused NoPlace"
        except NoPromise:
            return "refused NoPromise"

    def say_all(self, *lines):
        """Do the lines in order, and return the list of what they tell."""
        return [self.say(line) for line in lines]

    def _done(self, word, values):
        """Do what the line says, and return what it tells."""
        if word == "numbers":
            return self._keep_numbers(in_groups(values, 3))
        if word == "cells":
            return self._keep_cells(in_groups(values, 2))
        if word == "looks":
            return self._keep_plan(self._scheme(), values, [])
        if word == "tests":
            return self._keep_plan(self._scheme(), list(self._plan().looks), in_groups(values, 2))
        if word == "layout":
            return self._keep_layout(values)
        if word == "patterns":
            return str(sum(how_many(self._plan())))
        return _told(judge(self._plan(), _promise_of(word, values)))

    def _scheme(self):
        """Return the scheme that was told."""
        if self.scheme is None:
            raise NoPlan("looks", None)
        return self.scheme

    def _plan(self):
        """Return the plan that was told."""
        if self.plan is None:
            raise NoPlan("looks", None)
        return self.plan

    def _keep_numbers(self, numbers):
        """Keep the numbers, and forget all parts behind them."""
        check_numbers(numbers)
        self.numbers = numbers
        self.scheme = None
        self.plan = None
        return "ok"

    def _keep_cells(self, cells):
        """Keep the cells, and forget all parts behind them."""
        if self.numbers is None:
            raise NoScheme("numbers", None)
        self.scheme = Scheme(self.numbers, cells)
        self.plan = None
        return "ok"

    def _keep_plan(self, scheme, looks, tests):
        """Keep the looks and the tests."""
        self.plan = Plan(scheme, looks, tests)
        return "ok"

    def _keep_layout(self, values):
        """Keep all parts of a layout."""
        name, places, single = values
        scheme, plan = Plan.layout(name, places, single)
        self.numbers = list(scheme.numbers)
        self.scheme = scheme
        self.plan = plan
        return "ok"


def _read(line):
    """Return the first word of a line, and the list of what stands behind it."""
    if not isinstance(line, str):
        raise NoLine("a line is a text")
    first, *words = line.split(" ")
    if first == "tests" and words == ["none"]:
        return first, []
    if first not in FORMS:
        raise NoLine("no line begins with this word")
    head, group = FORMS[first]
    many = (len(words) - len(head)) // max(1, len(group))
    kinds = head + group * max(1, many)
    if len(kinds) != len(words) or not all([_fits(kind, word) for kind, word in zip(kinds, words)]):
        raise NoLine("no line has this form")
    return first, [int(word) if kind == "n" else word for kind, word in zip(kinds, words)]


def _fits(kind, word):
    """Tell whether the word is any one, or a number where it must be one."""
    return kind == "w" or is_decimal(word, MOST_FIGURES)


def _promise_of(word, values):
    """Return the promise that the line asks for."""
    if word == "together":
        return word, tuple(values)
    return word, (values[0], tuple(values[1:]))


def _told(verdict):
    """Return what the desk tells of a verdict."""
    if bool(verdict):
        return f"holds {len(verdict.rows)}"
    text = show_run(verdict.run).replace("\n", " / ")
    return f"breaks {text}"
