"""What the tests search by themselves: all runs with few versions and small digits."""

import itertools

from risingread.plans import Plan
from risingread.schemes import Scheme
from tests.helper import plan_of, written

KINDS = ("strict", "weak", "free")


def rows_of(kind, places, many, base):
    """All rows of so many versions of a number with digits below the base, that rise as they must."""
    numerals = list(itertools.product(range(base), repeat=places))
    if kind == "strict":
        return list(itertools.combinations(numerals, many))
    if kind == "weak":
        return list(itertools.combinations_with_replacement(numerals, many))
    return list(itertools.product(numerals, repeat=many))


def all_seen(plan, many):
    """All tuples of versions that the looks can see, of so many, found by writing the cells one by one."""
    moments = range((many - 1) * len(plan.scheme.cells) + 1)
    standing = [written(plan, moment) for moment in moments]
    found = set()
    for chosen in itertools.combinations_with_replacement(moments, len(plan.looks)):
        found.add(tuple(standing[moment][cell] for moment, cell in zip(chosen, plan.looks)))
    return sorted(found)


def heard_in(row, looks, places, seen):
    """What looks at these places have heard of a row."""
    return tuple(row[seen[look]][place] for place, look in zip(places, looks))


def passes(plan, name, seen, row):
    """Whether the tests of the number come out."""
    for one, other in plan.tests:
        known, place = plan.scheme.cells[plan.looks[one]]
        if known == name and row[seen[one]][place] != row[seen[other]][place]:
            return False
    return True


def is_true(promise, seen, row):
    """Whether the promise is true of what was seen, with this row of its number."""
    before, after = min(seen), max(seen)
    if promise[0] == "together":
        return len({seen[look] for look in promise[1]}) == 1
    heard = [tuple(row[seen[look]][place] for place, look in enumerate(looks)) for _, looks in promise[1:]]
    if promise[0] == "order":
        return heard[0] <= heard[1]
    if promise[0] == "stood":
        return heard[0] in row[before:after + 1]
    is_below = row[before] <= heard[0]
    is_above = heard[0] <= row[after]
    return {"below": is_below, "above": is_above, "between": is_below and is_above}[promise[0]]


def breaks(plan, promise, seen, many, base):
    """Whether some rows of so many versions pass, and the promise is false, when just this is seen."""
    about = None if promise[0] == "together" else promise[1][0]
    for name, places, kind in plan.scheme.numbers:
        rows = [row for row in rows_of(kind, places, many, base) if passes(plan, name, seen, row)]
        if name == about:
            rows = [row for row in rows if not is_true(promise, seen, row)]
        if not rows:
            return False
    return about is not None or not is_true(promise, seen, None)


def least_versions(plan, promise, most, base):
    """The least number of versions, at most so many, of a run that breaks the promise; None if there is none."""
    for many in range(1, most + 1):
        if any(breaks(plan, promise, seen, many, base) for seen in all_seen(plan, many)):
            return many
    return None


def small_plans():
    """Plans with few looks: each kind, one place and two, copies, tests and none, one number and two."""
    found = []
    for kind in KINDS:
        found.extend([
            plan_of(1, kind, [0], [0]),
            plan_of(1, kind, [0, 0], [0, 1, 0]),
            plan_of(1, kind, [0, 0], [1, 0, 1], [(0, 2)]),
            plan_of(1, kind, [0, 0, 0], [0, 1, 2], [(0, 1), (1, 2)]),
            plan_of(2, kind, [0, 1], [0, 1]),
            plan_of(2, kind, [0, 1], [1, 0]),
            plan_of(2, kind, [1, 0], [0, 1]),
            plan_of(2, kind, [1, 0], [1, 0]),
            plan_of(2, kind, [0, 1], [0, 1, 0], [(0, 2)]),
            plan_of(2, kind, [1, 0], [0, 1, 0]),
            plan_of(2, kind, [0, 1, 0], [2, 1, 0], [(0, 2)]),
            plan_of(2, kind, [0, 1, 0], [0, 1, 2], [(0, 2)]),
            plan_of(2, kind, [1, 0, 1], [2, 1, 0], [(0, 2)]),
        ])
    for one in KINDS:
        for other in KINDS:
            scheme = Scheme([("a", 1, one), ("b", 2, other)], [("b", 1), ("a", 0), ("b", 0)])
            found.append(Plan(scheme, [1, 2, 0], []))
            scheme = Scheme([("a", 1, one), ("b", 1, other)], [("a", 0), ("b", 0), ("a", 0)])
            found.append(Plan(scheme, [2, 1, 0], [(0, 2)]))
            found.append(Plan(scheme, [0, 1, 0, 1], [(0, 2), (1, 3)]))
    return found


def middle_plans():
    """Plans with four looks."""
    found = []
    for kind in KINDS:
        found.extend([
            plan_of(1, kind, [0, 0], [1, 0, 1, 0], [(0, 2), (1, 3)]),
            plan_of(2, kind, [0, 1, 1, 0], [3, 2, 1, 0], [(0, 3), (1, 2)]),
            plan_of(2, kind, [0, 1, 1, 0], [0, 1, 2, 3], [(0, 3), (1, 2)]),
            plan_of(2, kind, [0, 1], [1, 0, 1, 0]),
            plan_of(2, kind, [1, 0], [0, 1, 1, 0], [(1, 2)]),
        ])
    return found
