"""Versions of the numbers of a scheme: a dict from each name to a tuple of digits."""

from risingread.bases import first_fall
from risingread.checks import is_whole


def has_names(scheme, thing):
    """Tell whether it is a dict from just the names of the scheme's numbers."""
    if not isinstance(thing, dict) or len(thing) != len(scheme.numbers):
        return False
    return all([name in thing for name, _, _ in scheme.numbers])


def is_version(scheme, thing):
    """Tell whether it gives each number as many digits as places, with no bound on them."""
    if not has_names(scheme, thing):
        return False
    return all([_are_digits(thing[name], places) for name, places, _ in scheme.numbers])


def _are_digits(thing, places):
    """Tell whether it is a tuple of so many whole numbers from 0 on."""
    if not isinstance(thing, tuple) or len(thing) != places:
        return False
    return all([is_whole(digit) and digit >= 0 for digit in thing])


def first_fallen(scheme, one, other):
    """Return the name of the first number that must not go from the one version to the other, or None."""
    for name, _, kind in scheme.numbers:
        if first_fall(kind, [one[name], other[name]]) is not None:
            return name
    return None


def version_in(cell, writes, many):
    """Return the version that the cell, one of so many, holds when so many writes are done."""
    return (writes + many - 1 - cell) // many
