"""Orders of writing and of looking, and how one that is wrong is mended."""

from risingread.checks import is_numbered
from risingread.errors import NoOrder, TooMany
from risingread.judge import judge
from risingread.plans import Plan, check_promise
from risingread.schemes import Scheme

MOST_CELLS = 5
MOST_LOOKS = 4


def gaps(plan):
    """Return the list of the pairs of looks whose second cell is written behind the first one, ascending."""
    return [(one, other) for one, other in _pairs(len(plan)) if plan.looks[one] < plan.looks[other]]


def sure(plan):
    """Return the list of the pairs of looks that are no gaps, ascending."""
    return [(one, other) for one, other in _pairs(len(plan)) if plan.looks[one] >= plan.looks[other]]


def _pairs(many):
    """Return the list of the pairs of so many numbers, the lesser one ahead, ascending."""
    return [(one, other) for one in range(many) for other in range(one + 1, many)]


def alike(plan, other):
    """Tell whether the two plans have the same patterns."""
    return len(plan) == len(other) and gaps(plan) == gaps(other)


def rewritten(plan, order):
    """Return the plan with another writing order."""
    _check_order(order, len(plan.scheme))
    scheme = Scheme(list(plan.scheme.numbers), [plan.scheme.cells[cell] for cell in order])
    return Plan(scheme, [order.index(cell) for cell in plan.looks], list(plan.tests))


def reread(plan, order):
    """Return the plan with another reading order."""
    _check_order(order, len(plan))
    tests = [_rising(order.index(one), order.index(other)) for one, other in plan.tests]
    return Plan(plan.scheme, [plan.looks[look] for look in order], tests)


def _rising(one, other):
    """Return the pair of the two numbers, the lesser one ahead."""
    return (one, other) if one < other else (other, one)


def moved(promise, order):
    """Return the promise for the plan with another reading order."""
    _check_order(order, None)
    kind, *parts = promise
    if kind == "together":
        return kind, tuple(sorted([int(number) for number in _numbers_of(parts[0], order)]))
    readings = [(name, tuple(_numbers_of(chosen, order))) for name, chosen in parts]
    return kind, *readings


def _numbers_of(looks, order):
    """Return the list of the numbers that the looks have in the order."""
    if not all([look in order for look in looks]):
        raise NoOrder("the order lacks a look of the promise")
    return [order.index(look) for look in looks]


def _check_order(thing, many):
    """Raise NoOrder if it is no tuple of the numbers below this one, each once (None: below any one)."""
    if not isinstance(thing, tuple) or (many is not None and len(thing) != many):
        raise NoOrder("an order is a tuple of all numbers")
    if not all([is_numbered(number, len(thing)) for number in thing]) or len(set(thing)) != len(thing):
        raise NoOrder("an order has each number once")


def right_writings(plan, promise):
    """Return the list of all writing orders with which the promise holds, ascending."""
    if len(plan.scheme) > MOST_CELLS:
        raise TooMany(MOST_CELLS)
    _check_looks(plan)
    return [order for order in _all_orders(len(plan.scheme)) if bool(judge(rewritten(plan, order), promise))]


def right_readings(plan, promise):
    """Return the list of all reading orders with which the promise holds, ascending."""
    _check_looks(plan)
    check_promise(plan, promise)
    return [order for order in _all_orders(len(plan)) if bool(judge(reread(plan, order), moved(promise, order)))]


def mend(plan, promise):
    """Return the fewest exchanges that lead to a writing order with which the promise holds, and this order."""
    best = None
    for order in right_writings(plan, promise):
        many = _many_turned(order)
        if best is None or many < best[0]:
            best = (many, order)
    return best


def is_free(plan, k):
    """Tell whether exchanging the cells k and k + 1 leaves all patterns as they are."""
    if not is_numbered(k, len(plan.scheme) - 1):
        raise NoOrder("these are not two cells")
    return k not in plan.looks or k + 1 not in plan.looks


def _check_looks(plan):
    """Raise TooMany if there are too many looks to go through all orders."""
    if len(plan) > MOST_LOOKS:
        raise TooMany(MOST_LOOKS)


def _all_orders(many):
    """Return the list of all orders of so many numbers, ascending."""
    found = [()]
    for _ in range(many):
        found = [order + (number,) for order in found for number in range(many) if number not in order]
    return found


def _many_turned(order):
    """Return how many pairs of numbers are turned in the order."""
    return len([one for one, other in _pairs(len(order)) if order[one] > order[other]])
