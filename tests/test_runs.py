"""Runs [21], and what is true in an attempt [22]."""

import copy
import itertools
import unittest

from risingread.errors import BadRun, NoPromise, NoReading
from risingread.plans import Plan
from risingread.runs import Played, attempts, play
from risingread.schemes import Scheme
from tests.helper import Case, anything, exact, plan_of, promises_of, readings_of, written

NUMBERS = [("n", 2, "strict"), ("d", 1, "weak"), ("m", 1, "free")]
CELLS = [("n", 1), ("m", 0), ("n", 0), ("d", 0), ("n", 1)]
PLAN = Plan(Scheme(NUMBERS, CELLS), [4, 2, 1, 3, 0], [(0, 4)])
VERSIONS = [
    {"n": (0, 9), "d": (4,), "m": (7,)}, {"n": (1, 0), "d": (4,), "m": (3,)},
    {"m": (9,), "d": (10 ** 59,), "n": (1, 10 ** 60 - 1)},
]
LOOKS = ["look"] * 5
NO_VERSIONS = [
    {}, {"n": (5, 5), "d": (5,)}, {"n": (5, 5), "d": (5,), "x": (5,)}, {"n": (5, 5), "d": (5,), "m": (5,), "x": (5,)},
    {"n": (5, 5), "d": (5,), "m": (5,), 0: (5,)},
] + [
    {"n": (5, 5), "d": (5,), "m": (5,), name: digits}
    for name in ("n", "d", "m")
    for digits in [[5], [5, 5], (), (5, 5, 5), (5,) if name == "n" else (5, 5), (-1, 5), (5, -1), (-1,), (True, 5),
                   (True,), (5, False), ("5", 5), ("5",), (None,), ((5,),), ((5,), 5), {0: 5}, {}, None, 5, "5", True]
]


def events_of(text):
    """The events of a text: w for a write, l for a look."""
    return ["write" if sign == "w" else "look" for sign in text]


def all_events(writes, looks):
    """All orders of so many writes and looks."""
    for places in itertools.combinations(range(writes + looks), looks):
        yield ["look" if place in places else "write" for place in range(writes + looks)]


def simulated(plan, run):
    """What the looks of a run hear and see, found by writing the cells one by one."""
    versions, events = run
    cells = plan.scheme.cells
    standing = [versions[0][name][place] for name, place in cells]
    numbers = [0] * len(cells)
    writes = looks = 0
    heard, seen = [], []
    for event in events:
        if event == "write":
            cell = writes % len(cells)
            numbers[cell] = 1 + writes // len(cells)
            name, place = cells[cell]
            standing[cell] = versions[numbers[cell]][name][place]
            writes += 1
        else:
            cell = plan.looks[looks % len(plan)]
            heard.append(standing[cell])
            seen.append(numbers[cell])
            looks += 1
    return tuple(heard), tuple(seen)


class TestPlaying(Case):

    def assert_played(self, plan, run):
        """Assert that what is played is what the cells show when they are written one by one."""
        heard, seen = simulated(plan, run)
        told = play(plan, run)
        self.assertIs(told.__class__, Played)
        self.assertEqual(told.plan, plan)
        self.assert_same((told.heard, told.seen), (heard, seen))
        self.assert_same((told.before, told.after), (min(seen), max(seen)))
        self.assertIs(told.passes, all(heard[one] == heard[other] for one, other in plan.tests))
        return told

    def test_all_orders_of_events(self):
        plan = plan_of(2, "strict", [1, 0, 1], [2, 1, 0], [(0, 2)])
        versions = [{"n": (0, 9)}, {"n": (1, 0)}, {"n": (1, 1)}]
        passed = set()
        for writes in range(7):
            for events in all_events(writes, 3):
                passed.add(self.assert_played(plan, (versions, events)).passes)
        self.assertEqual(passed, {True, False})

    def test_several_numbers(self):
        for writes in range(11):
            for events in list(all_events(writes, 5))[::7]:
                self.assert_played(PLAN, (VERSIONS, events))

    def test_tuples_and_lists(self):
        events = events_of("wwlwwwlwllwl")
        wanted = simulated(PLAN, (VERSIONS, events))
        for versions in (VERSIONS, tuple(VERSIONS)):
            for told in (events, tuple(events)):
                for run in ((versions, told), [versions, told]):
                    played = play(PLAN, run)
                    self.assert_same((played.heard, played.seen), wanted)

    def test_a_run_that_ends_amid_a_version_or_leaves_versions_over(self):
        for events in ("lllll", "wlllll", "wwwwwlllll", "lllllww", "wwwwwwwlllllw"):
            self.assert_played(PLAN, (VERSIONS, events_of(events)))
        self.assert_same(play(PLAN, (VERSIONS[:1], LOOKS)).heard, (9, 0, 7, 4, 9))

    def test_digits_of_sixty_figures(self):
        played = play(PLAN, (VERSIONS, events_of("w" * 10 + "lllll")))
        self.assert_same(played.heard, (10 ** 60 - 1, 1, 9, 10 ** 59, 10 ** 60 - 1))

    def test_the_run_stays_and_is_copied(self):
        run = [copy.deepcopy(VERSIONS), events_of("wwlwwwlwllwl")]
        before = exact(run)
        told, again = play(PLAN, run), play(PLAN, run)
        self.assertEqual(exact(run), before)
        self.assertEqual(told, again)
        run[0][0]["n"] = (0, 0)
        run[0][1].clear()
        run[0].pop()
        run[1].clear()
        self.assertEqual(told, again)
        self.assertEqual(told, play(PLAN, (VERSIONS, events_of("wwlwwwlwllwl"))))
        self.assertIs(told.tells(("stood", ("n", (1, 0)))), again.tells(("stood", ("n", (1, 0)))))

    def test_answers(self):
        told = play(PLAN, (VERSIONS, events_of("wwlwwwlwllwl")))
        for name, chosen in readings_of(PLAN):
            self.assert_same(told.answer((name, chosen)), tuple(told.heard[look] for look in chosen))
        for thing in anything() + promises_of(PLAN) + [("n", (0, 1)), ("n", [1, 0]), ("n", (1,)), ("d", (True,))]:
            self.assert_raises(NoReading, [thing], told.answer, thing)


class TestBadRuns(Case):

    def assert_bad(self, part, at, plan, run, both=True):
        """Assert that a run is refused by play and, if told so, by attempts."""
        before = exact(run)
        self.assert_raises(BadRun, [part, at], play, plan, run)
        if both:
            self.assert_raises(BadRun, [part, at], lambda: next(attempts(plan, run)))
            self.assert_raises(BadRun, [part, at], lambda: list(attempts(plan, run)))
        self.assertEqual(exact(run), before)

    def test_no_pair(self):
        for run in [(), (VERSIONS,), (VERSIONS, LOOKS, []), [VERSIONS], {0: VERSIONS, 1: LOOKS}, {}, None, "ab", 2]:
            self.assert_bad("run", None, PLAN, run)
        for thing in anything():
            if not isinstance(thing, (tuple, list)) or len(thing) != 2:
                self.assert_bad("run", None, PLAN, thing)

    def test_no_versions(self):
        for versions in [thing for thing in anything() if not isinstance(thing, (tuple, list)) or not thing]:
            for events in (LOOKS, None, [None]):
                self.assert_bad("versions", None, PLAN, (versions, events))
        self.assert_bad("versions", None, PLAN, (VERSIONS[0], LOOKS))

    def test_the_first_version_that_is_none(self):
        for wrong in NO_VERSIONS + anything():
            for at in range(3):
                versions = list(VERSIONS)
                versions[at] = wrong
                for events in (LOOKS, None, [None], []):
                    self.assert_bad("versions", at, PLAN, (versions, events))
                self.assert_bad("versions", at, PLAN, (tuple(versions[:at + 1]) + (wrong,), LOOKS))

    def test_the_first_version_that_does_not_rise(self):
        for name, digits in [("n", (0, 9)), ("n", (0, 8)), ("n", (1, 10 ** 59)), ("d", (3,)), ("d", (0,))]:
            versions = [VERSIONS[0], {**VERSIONS[1], "n": (1, 10 ** 59)}, {**VERSIONS[2], name: digits}]
            self.assert_bad("versions", 2, PLAN, (versions, LOOKS))
            self.assert_bad("versions", 2, PLAN, (versions + [None], None))
        self.assert_bad("versions", 1, PLAN, (VERSIONS[:1] * 2, LOOKS))
        self.assert_bad("versions", 1, PLAN, (VERSIONS[:1] + [{**VERSIONS[1], "d": (3,)}, {}], LOOKS))
        free = {**VERSIONS[1], "m": (0,)}
        self.assert_same(play(PLAN, ([VERSIONS[0], free], LOOKS)).heard, (9, 0, 7, 4, 9))

    def test_two_faults_at_once(self):
        self.assert_bad("versions", 0, PLAN, ([None, VERSIONS[0], VERSIONS[0]], None))
        self.assert_bad("versions", 1, PLAN, ([VERSIONS[1], VERSIONS[0], None], ["walk"]))
        self.assert_bad("versions", 1, PLAN, ([VERSIONS[1], None, VERSIONS[0]], ["walk"]))
        self.assert_bad("events", 0, PLAN, (VERSIONS[:1], ["write", "walk"]))
        self.assert_bad("events", 1, PLAN, (VERSIONS[:1], ["look", "walk", "write"]))
        self.assert_bad("events", 5, PLAN, (VERSIONS[:1], LOOKS + ["walk", "look"]))
        self.assert_bad("events", 5, PLAN, (VERSIONS[:1], LOOKS + ["look", "walk"]), False)

    def test_no_events(self):
        for thing in anything():
            if not isinstance(thing, (tuple, list)):
                self.assert_bad("events", None, PLAN, (VERSIONS, thing))

    def test_the_first_event_that_is_no_word(self):
        events = events_of("wlwlllwl")
        for wrong in anything() + ["Look", "look ", "writes", ["look"], ("write",), {"look": "look"}]:
            for at in range(len(events)):
                told = list(events)
                told[at] = wrong
                self.assert_bad("events", at, PLAN, (VERSIONS, told))
                self.assert_bad("events", at, PLAN, (VERSIONS, tuple(told[:at + 1])))
                self.assert_bad("events", at, PLAN, (VERSIONS, told[:at + 1] + [wrong]))
            self.assert_bad("events", len(events), PLAN, (VERSIONS, events + [wrong]))

    def test_a_write_beyond_the_last_version(self):
        for many in range(1, 4):
            events = ["write"] * (5 * many - 5)
            self.assert_bad("events", len(events), PLAN, (VERSIONS[:many], events + ["write"] + LOOKS))
            self.assert_bad("events", len(events) + 5, PLAN, (VERSIONS[:many], events + LOOKS + ["write"]))
            self.assert_same(play(PLAN, (VERSIONS[:many], events + LOOKS)).before, many - 1)

    def test_a_look_too_many(self):
        self.assert_bad("events", 5, PLAN, (VERSIONS, ["look"] * 6), False)
        self.assert_bad("events", 5, PLAN, (VERSIONS, ["look"] * 10), False)
        self.assert_bad("events", 8, PLAN, (VERSIONS, events_of("wlwlllwl" + "lw")), False)
        self.assertEqual(len(list(attempts(PLAN, (VERSIONS, ["look"] * 10)))), 2)

    def test_looks_that_are_lacking(self):
        for many in range(5):
            for writes in (0, 1, 5, 10):
                for events in (["look"] * many + ["write"] * writes, ["write"] * writes + ["look"] * many):
                    self.assert_bad("events", many + writes, PLAN, (VERSIONS, events))
        for many in (6, 7, 9, 11):
            self.assert_raises(BadRun, ["events", many], lambda: next(attempts(PLAN, (VERSIONS, ["look"] * many))))
        self.assert_bad("events", 0, PLAN, (VERSIONS, ()))


class TestAttempts(Case):

    def test_several_attempts(self):
        plan = plan_of(2, "strict", [1, 0, 1], [2, 1, 0], [(0, 2)])
        versions = [{"n": (0, 9)}, {"n": (1, 0)}, {"n": (1, 1)}]
        for writes in (0, 2, 5):
            for events in list(all_events(writes, 6)):
                heard, seen = simulated(plan, (versions, events))
                told = list(attempts(plan, (versions, events)))
                self.assert_same([one.heard for one in told], [heard[:3], heard[3:]])
                self.assert_same([one.seen for one in told], [seen[:3], seen[3:]])
                self.assert_same([one.before for one in told], [min(seen[:3]), min(seen[3:])])
                self.assert_same([one.after for one in told], [max(seen[:3]), max(seen[3:])])
                self.assert_same([one.passes for one in told], [heard[0] == heard[2], heard[3] == heard[5]])

    def test_each_attempt_is_what_is_played_of_it(self):
        events = events_of("wllwwwllwlwwwlwlllwllll" + "lllllll")
        told = list(attempts(PLAN, (VERSIONS, events)))
        self.assertEqual(len(told), 4)
        heard, seen = simulated(PLAN, (VERSIONS, events))
        for number, one in enumerate(told):
            self.assertIs(one.__class__, Played)
            self.assertEqual(one.plan, PLAN)
            self.assert_same((one.heard, one.seen), (heard[5 * number:5 * number + 5], seen[5 * number:5 * number + 5]))
            # The other attempts' looks are left out of the run, so this one can be played.
            looks = [at for at, event in enumerate(events) if event == "look"]
            kept = looks[5 * number:5 * number + 5]
            alone = [event for at, event in enumerate(events) if event == "write" or at in kept]
            self.assertEqual(one, play(PLAN, (VERSIONS, alone)))

    def test_one_attempt(self):
        run = ([VERSIONS[0], VERSIONS[1]], events_of("wwlwllwll"))
        self.assertEqual(list(attempts(PLAN, run)), [play(PLAN, run)])
        self.assertEqual(list(attempts(PLAN, list(run))), [play(PLAN, run)])

    def test_the_run_stays_and_the_same_comes_again(self):
        run = [copy.deepcopy(VERSIONS), events_of("wllwwwllwlwwwlwwllll")]
        before = exact(run)
        told, again = list(attempts(PLAN, run)), list(attempts(PLAN, run))
        self.assertEqual(exact(run), before)
        self.assertEqual(told, again)
        run[0][0].clear()
        self.assertEqual(told, list(attempts(PLAN, (VERSIONS, run[1]))))

    def test_rest_between_two_versions(self):
        # [23]: nothing is written in an attempt that begins when the board is whole.
        plan = Plan(Scheme(NUMBERS, CELLS), [4, 2, 1, 3, 0, 4, 2], [(0, 4), (1, 6), (4, 5)])
        for whole in range(3):
            told = list(attempts(plan, (VERSIONS, ["write"] * (5 * whole) + ["look"] * 14)))
            self.assertEqual(told[0], told[1])
            for one in told:
                self.assertIs(one.passes, True)
                self.assert_same(one.seen, (whole,) * 7)
                for name, chosen in readings_of(plan):
                    self.assert_same(one.answer((name, chosen)), VERSIONS[whole][name])
                for promise in promises_of(plan):
                    self.assertIs(one.tells(promise), True, promise)

    def test_rest_amid_a_version(self):
        # [23]: for as long as the writer rests here, the test fails.
        told = list(attempts(PLAN, (VERSIONS, ["write"] * 6 + ["look"] * 15)))
        self.assert_same([one.passes for one in told], [False] * 3)
        self.assert_same([one.seen for one in told], [(1, 1, 1, 1, 2)] * 3)
        told = list(attempts(PLAN, (VERSIONS, ["write"] * 6 + ["look"] * 15 + ["write"] * 4 + LOOKS)))
        self.assert_same([one.passes for one in told], [False] * 3 + [True])


class TestTruth(Case):

    def assert_tells(self, plan, run):
        """Assert that each promise is told to be true as the document's words have it."""
        told = play(plan, run)
        for promise in promises_of(plan):
            wanted = is_true(promise, run[0], told)
            self.assertIs(told.tells(promise), wanted, (promise, run))
            self.assertIs(told.breaks(promise), told.passes and not wanted, (promise, run))
            yield promise[0], wanted, told.passes

    def test_each_kind(self):
        versions = [{"n": (0, 9)}, {"n": (1, 0)}, {"n": (1, 1)}]
        plans = [plan_of(2, "strict", [1, 0, 1], [2, 1, 0], [(0, 2)]), plan_of(2, "strict", [1, 0], [0, 1, 1], [(1, 2)]),
                 plan_of(2, "strict", [0, 1], [0, 1, 1])]
        seen = set()
        for plan in plans:
            for writes in range(5):
                for events in all_events(writes, 3):
                    seen.update(self.assert_tells(plan, (versions, events)))
        for word in ("below", "above", "between", "stood", "order", "together"):
            for wanted in (True, False):
                for passes in (True, False):
                    self.assertIn((word, wanted, passes), seen)

    def test_several_numbers(self):
        seen = set()
        for writes in range(11):
            for events in list(all_events(writes, 5))[::31]:
                seen.update(self.assert_tells(PLAN, (VERSIONS, events)))
        self.assertGreater(len(seen), 12)

    def test_a_number_that_falls_and_stays(self):
        plan = plan_of(1, "free", [0, 0], [0, 1])
        versions = [{"n": (2,)}, {"n": (5,)}, {"n": (2,)}, {"n": (0,)}]
        # Look 0 sees version 0, look 1 version 2: equal digits, other versions.
        told = play(plan, (versions, events_of("lwwwwl")))
        self.assertIs(told.tells(("together", (0, 1))), False)
        self.assertIs(told.tells(("stood", ("n", (0,)))), True)
        self.assertIs(told.breaks(("together", (0, 1))), True)

    def test_another_number_counts_for_before_and_after(self):
        # The mark is looked at first and last: versions 0 and 2 are seen there alone.
        scheme = Scheme([("n", 1, "weak"), ("m", 1, "free")], [("n", 0), ("m", 0)])
        plan = Plan(scheme, [1, 0, 1], [])
        versions = [{"n": (1,), "m": (0,)}, {"n": (3,), "m": (0,)}, {"n": (6,), "m": (0,)}]
        told = play(plan, (versions, events_of("lwwlwwl")))
        self.assert_same((told.before, told.after, told.heard), (0, 2, (0, 3, 0)))
        for promise in promises_of(plan):
            self.assertIs(told.tells(promise), promise[0] != "together", promise)

    def test_no_promise(self):
        told = play(PLAN, (VERSIONS, LOOKS))
        failed = play(PLAN, (VERSIONS, ["write"] + LOOKS))
        self.assertIs(failed.passes, False)
        wrong = [("below", ("m", (2,))), ("stood", ("n", (0, 1))), ("together", (1, 0)), ["stood", ("n", (1, 0))]]
        for thing in anything() + readings_of(PLAN) + wrong:
            for played in (told, failed):
                self.assert_raises(NoPromise, [thing], played.tells, thing)
                self.assert_raises(NoPromise, [thing], played.breaks, thing)


def is_true(promise, versions, told):
    """Whether the promise is true, by the words of [12] and [22]."""
    kind, parts = promise[0], promise[1:]
    if kind == "together":
        return len({told.seen[look] for look in parts[0]}) == 1
    heard = [tuple(told.heard[look] for look in chosen) for _, chosen in parts]
    name = parts[0][0]
    if kind == "order":
        return not heard[0] > heard[1]
    if kind == "stood":
        return any(versions[k][name] == heard[0] for k in range(told.before, told.after + 1))
    is_below = not versions[told.before][name] > heard[0]
    is_above = not versions[told.after][name] < heard[0]
    return {"below": is_below, "above": is_above, "between": is_below and is_above}[kind]


class TestEqual(Case):

    def setUp(self):
        self.plan = plan_of(2, "weak", [1, 0], [1, 0])
        self.versions = [{"n": (0, 9)}, {"n": (1, 0)}, {"n": (1, 0)}, {"n": (2, 2)}]

    def test_other_runs_that_are_heard_alike(self):
        told = play(self.plan, (self.versions, events_of("wwlwl")))
        self.assert_same(told.seen, (1, 2))
        for versions, events in [
            (self.versions[:3], "wwlwl"), ([{"n": (0, 0)}] + self.versions[1:], "wwlwl"),
            (self.versions, "wwlwlww"), (self.versions[:3] + [{"n": (9, 9)}], "wwlwlw"),
        ]:
            other = play(self.plan, (versions, events_of(events)))
            self.assertIs(told == other, True)
            self.assertIs(told != other, False)

    def test_unlike_ones(self):
        told = play(self.plan, (self.versions, events_of("wwlwl")))
        others = [play(self.plan, (self.versions, events_of(events))) for events in ("wwll", "lwwl", "wwwwll", "lwl")]
        others.append(play(self.plan, ([self.versions[0]] * 2 + self.versions[1:2], events_of("wwlwl"))))
        weaker = plan_of(2, "free", [1, 0], [1, 0])
        others.append(play(weaker, (self.versions, events_of("wwlwl"))))
        tested = plan_of(2, "weak", [1, 0], [1, 0, 0], [(1, 2)])
        untested = plan_of(2, "weak", [1, 0], [1, 0, 0])
        others.append(play(tested, (self.versions, events_of("wwlwll"))))
        self.assertIs(others[-1] == play(untested, (self.versions, events_of("wwlwll"))), False)
        for other in others:
            self.assertIs(told == other, False)
            self.assertIs(told != other, True)

    def test_versions_between_that_no_look_sees_count(self):
        plan = plan_of(1, "weak", [0], [0, 0])
        versions = [{"n": (0,)}, {"n": (1,)}, {"n": (2,)}]
        one = play(plan, (versions, events_of("lwwl")))
        other = play(plan, ([versions[0], {"n": (2,)}, versions[2]], events_of("lwwl")))
        self.assert_same((one.heard, one.seen), (other.heard, other.seen))
        self.assertIs(one == other, False)

    def test_nothing_else_is_equal(self):
        told = play(self.plan, (self.versions, events_of("wwlwl")))
        for thing in anything() + [self.plan, told.heard, (told.plan, told.heard, told.seen)]:
            self.assertIs(told == thing, False)
            self.assertIs(thing == told, False)


class TestOracle(Case):

    def test_versions_that_cells_hold(self):
        # The simulation of this file and the one of the helper agree.
        plan = plan_of(2, "weak", [1, 0, 1], [0, 1, 2])
        versions = [{"n": (k, k)} for k in range(5)]
        for writes in range(13):
            seen = simulated(plan, (versions, ["write"] * writes + ["look"] * 3))[1]
            self.assertEqual(list(seen), written(plan, writes))


if __name__ == "__main__":
    unittest.main()
