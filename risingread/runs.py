"""Runs: versions and events told beforehand, and what the attempts in them have heard."""

from risingread.checks import is_sequence
from risingread.errors import BadRun, NoReading
from risingread.plans import check_promise, come_out, digits_in
from risingread.versions import first_fallen, is_version, version_in


class Played:
    """What one attempt has heard and seen, and what is true in it."""

    def __init__(self, plan, heard, seen, versions):
        self.plan = plan
        self.heard = tuple(heard)
        self.seen = tuple(seen)
        self.before = min([int(version) for version in seen])
        self.after = max([int(version) for version in seen])
        self.passes = come_out(plan.tests, heard)
        self.stretch = [dict(version) for version in versions[self.before:self.after + 1]]

    def answer(self, reading):
        """Return the tuple of the digits that the reading heard, place by place."""
        if not self.plan.is_reading(reading):
            raise NoReading(reading)
        return digits_in(reading, self.heard)

    def tells(self, promise):
        """Tell whether the promise is true in the attempt, whether it passes or not."""
        check_promise(self.plan, promise)
        if promise[0] == "together":
            return len({self.seen[look] for look in promise[1]}) == 1
        if promise[0] == "order":
            return self.answer(promise[1]) <= self.answer(promise[2])
        return self._is_true_of(promise[0], promise[1])

    def _is_true_of(self, kind, reading):
        """Tell whether what the reading heard lies as it must among the versions."""
        heard = self.answer(reading)
        numbers = [version[reading[0]] for version in self.stretch]
        if kind == "stood":
            return heard in numbers
        if kind == "below":
            return numbers[0] <= heard
        if kind == "above":
            return heard <= numbers[-1]
        return numbers[0] <= heard <= numbers[-1]

    def breaks(self, promise):
        """Tell whether the attempt passes and the promise is not true in it."""
        told = self.tells(promise)
        return self.passes and not told

    def __eq__(self, other):
        if not isinstance(other, Played):
            return NotImplemented
        return (self.plan, self.heard, self.seen, self.stretch) == (other.plan, other.heard, other.seen, other.stretch)


def play(plan, run):
    """Return what is heard in a run of the plan."""
    _check_run(plan, run, len(plan))
    heard, seen = _looked(plan, run)
    return Played(plan, heard, seen, run[0])


def attempts(plan, run):
    """Yield what is heard in each attempt of a run of several ones, in their order."""
    _check_run(plan, run, None)
    heard, seen = _looked(plan, run)
    many = len(plan)
    for first in range(0, len(seen), many):
        yield Played(plan, heard[first:first + many], seen[first:first + many], run[0])


def _check_run(plan, run, most):
    """Raise BadRun if it is no run of attempts, with so many looks at most (None: any number)."""
    if not is_sequence(run) or len(run) != 2:
        raise BadRun("run", None)
    versions, events = run
    _check_versions(plan.scheme, versions)
    if not is_sequence(events):
        raise BadRun("events", None)
    looks = _count_looks(events, (len(versions) - 1) * len(plan.scheme), most)
    if looks == 0 or looks % len(plan) != 0:
        raise BadRun("events", len(events))


def _check_versions(scheme, versions):
    """Raise BadRun with the first one that is no version, or does not rise as it must."""
    if not is_sequence(versions) or len(versions) == 0:
        raise BadRun("versions", None)
    for at, version in enumerate(versions):
        if not is_version(scheme, version):
            raise BadRun("versions", at)
        if at > 0 and first_fallen(scheme, versions[at - 1], version) is not None:
            raise BadRun("versions", at)


def _count_looks(events, most_writes, most_looks):
    """Return how many looks there are; raise BadRun with the first event that cannot be."""
    writes = 0
    looks = 0
    for at, event in enumerate(events):
        if event == "write" and writes < most_writes:
            writes = writes + 1
        elif event == "look" and (most_looks is None or looks < most_looks):
            looks = looks + 1
        else:
            raise BadRun("events", at)
    return looks


def _looked(plan, run):
    """Return two lists: the digit that each look of the run hears, and the version that it sees."""
    versions, events = run
    cells = plan.scheme.cells
    writes = 0
    heard = []
    seen = []
    for event in events:
        if event == "write":
            writes = writes + 1
        else:
            cell = plan.looks[len(seen) % len(plan)]
            version = version_in(cell, writes, len(cells))
            name, place = cells[cell]
            heard.append(versions[version][name][place])
            seen.append(version)
    return heard, seen
