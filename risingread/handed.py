"""Readings that are handed on: a reader that begins behind the end of another one."""

from risingread.errors import Unlike
from risingread.judge import judge
from risingread.plans import Plan


def handed(first, second):
    """Return the plan of the looks of the first plan and then those of the second one."""
    if first.scheme != second.scheme:
        raise Unlike("the plans have unlike schemes")
    many = len(first)
    tests = [(one + many, other + many) for one, other in second.tests]
    return Plan(first.scheme, list(first.looks + second.looks), list(first.tests) + tests)


def later(first, reading):
    """Return a reading of the second plan as one of handed plans."""
    name, chosen = reading
    return name, tuple([look + len(first) for look in chosen])


def passed_on(first, reading, second, other):
    """Return the verdict on that the second reader never hears less than the first one."""
    return judge(handed(first, second), ("order", reading, later(first, other)))


def never_back(plan, reading):
    """Return the verdict on that a reader with this plan never hears less than one before it."""
    return passed_on(plan, reading, plan, reading)
