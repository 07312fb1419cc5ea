"""Bases of numerals, and versions of a number as tuples of digits."""

from risingread.checks import is_sequence, is_whole
from risingread.errors import NoNumeral

LEAST_BASE = 2
GREATEST_BASE = 100
MOST_PLACES = 4


def is_bases(thing):
    """Tell whether it is a tuple or list of 1 to 4 integers from 2 to 100."""
    if not is_sequence(thing) or not 1 <= len(thing) <= MOST_PLACES:
        return False
    return all([is_whole(base) and LEAST_BASE <= base <= GREATEST_BASE for base in thing])


def _products(bases):
    """Return the products of no lowest base, of the lowest one, and so on up to all."""
    if not is_bases(bases):
        raise NoNumeral(None)
    found = [1]
    for base in bases[::-1]:
        found.append(found[-1] * base)
    return found


def weights(bases):
    """Return the tuple of the weights of the places."""
    return tuple(_products(bases)[:-1][::-1])


def count_of(bases):
    """Return how many numerals there are with these bases."""
    return _products(bases)[-1]


def _falls(kind, one, other):
    """Tell whether a number of this kind must not go from the one version to the other."""
    if kind == "strict":
        return other <= one
    return kind == "weak" and other < one


def first_fall(kind, versions):
    """Return the number of the first version that breaks the kind, or None."""
    for at in range(1, len(versions)):
        if _falls(kind, versions[at - 1], versions[at]):
            return at
    return None


def _least_base(digits):
    """Return the least base that has all these digits."""
    base = LEAST_BASE
    for digit in digits:
        if digit >= base:
            base = digit + 1
    return base


def bases_for(versions):
    """Return the least bases, a tuple, with which all versions can be written."""
    return tuple([_least_base(column) for column in zip(*versions)])


def _turned(version, bases):
    """Return the version with each digit counted down from the greatest one of its place."""
    return tuple([base - 1 - digit for digit, base in zip(version, bases)])


def turned_versions(versions, bases):
    """Return the list of the turned versions: what came last comes first."""
    return [_turned(version, bases) for version in versions[::-1]]
