"""The judge: whether a plan keeps a promise, with what shows it."""

from risingread.copies import copied
from risingread.errors import NoReading
from risingread.facts import same_above
from risingread.forced import Forced
from risingread.patterns import check_pattern, patterns, top_of
from risingread.plans import check_promise
from risingread.sides import facts_of_stood, see_one, sides_of, ties_above
from risingread.weavings import weaving_of

KINDS_OF_ONE = ("below", "above", "between", "stood")


class Verdict:
    """Whether a plan keeps a promise."""

    def __init__(self, plan, promise):
        self.plan = plan
        self.promise = copied(promise)


class Holds(Verdict):
    """The promise is kept: for each pattern there is a why."""

    def __init__(self, plan, promise, rows):
        Verdict.__init__(self, plan, promise)
        self.rows = copied(rows)

    def __bool__(self):
        return True

    @property
    def length(self):
        """None: there is no run."""
        return None


class Breaks(Verdict):
    """The promise is not kept: a pattern breaks it, in a run."""

    def __init__(self, plan, promise, pattern, run):
        Verdict.__init__(self, plan, promise)
        self.pattern = copied(pattern)
        self.run = copied(run)

    def __bool__(self):
        return False

    @property
    def length(self):
        """The number of versions of the run."""
        return len(self.run[0])


def why(plan, pattern, promise):
    """Return how the pattern keeps the promise, or None if it breaks it."""
    check_promise(plan, promise)
    check_pattern(plan, pattern)
    reason, _ = _judged(plan, pattern, promise)
    return reason


def broken_by(plan, pattern, promise):
    """Return the run by which the pattern breaks the promise, or None if it keeps it."""
    check_promise(plan, promise)
    check_pattern(plan, pattern)
    reason, rows = _judged(plan, pattern, promise)
    return _run_of(plan, pattern, rows) if reason is None else None


def judge(plan, promise):
    """Return the verdict on the promise."""
    check_promise(plan, promise)
    found = []
    for pattern in patterns(plan):
        reason, rows = _judged(plan, pattern, promise)
        if reason is None:
            return Breaks(plan, promise, pattern, _run_of(plan, pattern, rows))
        found.append((pattern, reason))
    return Holds(plan, promise, tuple(found))


def kept(plan, reading):
    """Return the tuple of the kinds of promises about the one reading that hold."""
    if not plan.is_reading(reading):
        raise NoReading(reading)
    promises = [(kind, reading) for kind in KINDS_OF_ONE if plan.is_promise((kind, reading))]
    return tuple([promise[0] for promise in promises if bool(judge(plan, promise))])


def _judged(plan, pattern, promise):
    """Return how the pattern keeps the promise, or None, and a dict of rows.

    If it breaks the promise, the dict has the row that shows it, where this is
    another one than the freest row of the number.
    """
    reason = _why_none_passes(plan, pattern)
    if reason is not None:
        return reason, {}
    if promise[0] == "together":
        return (("one",) if see_one(pattern, promise[1]) else None), {}
    if promise[0] == "stood":
        return _why_stood(plan, pattern, promise[1]), {}
    if promise[0] == "between":
        return _judged_between(plan, pattern, promise[1])
    return _judged_sides(plan, pattern, promise)


def _why_none_passes(plan, pattern):
    """Return the why of a strict number whose tests cannot come out, or None if there is none."""
    for name, _, _ in plan.scheme.numbers:
        forced = Forced(plan, pattern, name)
        if forced.clash is not None:
            return "tests", name, forced.clash, _steps_to_clash(forced)
    return None


def _steps_to_clash(forced):
    """Return the steps that show that the clash and the next version are the same at all places."""
    return _steps_to(forced, same_above(forced.places, forced.clash, forced.clash + 1))


def _steps_to(forced, facts):
    """Return the tuple of steps that show all these facts, none of them twice."""
    steps = []
    for place, x, y in facts:
        steps.extend([step for step in forced.steps(place, x, y) if step not in steps])
    return tuple(steps)


def _why_stood(plan, pattern, reading):
    """Return the why of a version that the reading heard, or None if there is none."""
    forced = Forced(plan, pattern, reading[0])
    for version in range(top_of(pattern) + 1):
        facts = facts_of_stood(pattern, reading, version)
        if all([forced.at_most(place, x, y) for place, x, y in facts]):
            return "stood", version, _steps_to(forced, facts)
    return None


def _judged_between(plan, pattern, reading):
    """Return what _judged does, of a promise that is two of them."""
    below, rows = _judged_sides(plan, pattern, ("below", reading))
    if below is None:
        return None, rows
    above, rows = _judged_sides(plan, pattern, ("above", reading))
    if above is None:
        return None, rows
    return ("both", below, above), {}


def _judged_sides(plan, pattern, promise):
    """Return what _judged does, of a promise that one side is at most the other one."""
    name = promise[1][0]
    sides = sides_of(pattern, promise)
    parts = []
    for place, (left, right) in enumerate(sides):
        ties = ties_above(sides, place)
        forced = Forced(plan, pattern, name, ties=ties)
        if forced.clash is not None:
            parts.append(("tests", forced.clash, _steps_to_clash(forced)))
            return ("sides", tuple(parts)), {}
        if not forced.at_most(place, left, right):
            wished = Forced(plan, pattern, name, ties=ties, less=(place, right, left))
            return None, {name: wished.freest()}
        parts.append(("walk", forced.steps(place, left, right)))
    return ("sides", tuple(parts)), {}


def _run_of(plan, pattern, rows):
    """Return the run of a pattern, with these rows and the freest ones of all other numbers."""
    chosen = dict(rows)
    for name, _, _ in plan.scheme.numbers:
        if name not in chosen:
            chosen[name] = Forced(plan, pattern, name).freest()
    versions = [{known: row[version] for known, row in chosen.items()} for version in range(top_of(pattern) + 1)]
    return tuple(versions), weaving_of(plan, pattern)
