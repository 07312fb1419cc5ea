"""Forced digits [28] to [31], the freest row [32] and derivations [33]."""

import itertools
import unittest

from risingread.derived import shown
from risingread.errors import NoName, NoRight, NotForced, NotPattern
from risingread.forced import Forced
from risingread.patterns import patterns
from risingread.plans import Plan
from risingread.schemes import Scheme
from tests.helper import Case, anything, plan_of

KINDS = ("strict", "weak", "free")
EXAMPLE = plan_of(2, "strict", [0, 1, 1, 0], [3, 2, 1, 0], [(0, 3), (1, 2)])


def plans_of(kind):
    """Plans of one number of this kind, with tests and copies."""
    return [
        plan_of(2, kind, [0, 1, 1, 0], [3, 2, 1, 0], [(0, 3), (1, 2)]),
        plan_of(2, kind, [0, 1, 1, 0], [0, 1, 2, 3], [(0, 3), (1, 2)]),
        plan_of(2, kind, [0, 1], [0, 1, 0, 1], [(0, 2), (1, 3)]),
        plan_of(2, kind, [0, 1], [0, 1, 0, 1], []),
        plan_of(1, kind, [0, 0, 0], [0, 1, 2, 1], [(0, 2), (1, 3)]),
        plan_of(3, kind, [0, 1, 2], [0, 2, 1, 0], [(0, 3)]),
        plan_of(3, kind, [2, 1, 0, 1, 2], [2, 1, 0, 4, 3, 2], [(0, 5), (1, 4), (2, 3)]),
    ]


def wishes_of(plan, top):
    """Some ties and less wishes for the number of a plan."""
    places = plan.scheme.numbers[0][1]
    ties = [(), ((0, 0, top),), ((places - 1, top, 0), (0, 0, 0)), ((0, 0, top // 2), (places - 1, top // 2, top))]
    lesses = [None, (0, 0, top), (0, top, 0), (places - 1, top, 0), (places - 1, 0, top), (0, top, top // 2)]
    return [(tied, less) for tied in ties for less in lesses]


def closed(plan, pattern, name, ties):
    """The forced facts of two versions, found by adding facts until nothing changes."""
    number = [number for number in plan.scheme.numbers if number[0] == name][0]
    versions = range(max(pattern) + 1)
    facts = {(place, x, x) for place in range(number[1]) for x in versions}
    tied = list(ties)
    for one, other in plan.tests:
        if plan.place_at(one)[0] == name:
            tied.append((plan.place_at(one)[1], pattern[one], pattern[other]))
    for place, x, y in tied:
        facts |= {(place, x, y), (place, y, x)}
    while True:
        more = set()
        for place in range(number[1]):
            if number[2] != "free":
                more |= {(place, x, x + 1) for x in versions[:-1] if same_above(facts, place, x)}
            more |= {(place, x, z) for x, y, z in itertools.product(versions, repeat=3)
                     if (place, x, y) in facts and (place, y, z) in facts}
        if more <= facts:
            return facts
        facts |= more


def same_above(facts, place, x):
    """Whether x and x + 1 are the same at each place above."""
    return all((above, x, x + 1) in facts and (above, x + 1, x) in facts for above in range(place))


def is_right(kind, row):
    """Whether the numbers rise as they must."""
    pairs = list(zip(row, row[1:]))
    return kind == "free" or all(one < other if kind == "strict" else one <= other for one, other in pairs)


def passes(plan, pattern, name, ties, less, row):
    """Whether the row has equal digits where tests and ties want it, and keeps the less wish."""
    tied = list(ties) + [(plan.place_at(one)[1], pattern[one], pattern[other]) for one, other in plan.tests
                         if plan.place_at(one)[0] == name]
    if not all(row[x][place] == row[y][place] for place, x, y in tied):
        return False
    return less is None or row[less[1]][less[0]] < row[less[2]][less[0]]


def follows(step, facts, kind, tied):
    """The fact that a step shows by the words of [33]; None if it does not follow."""
    known = facts | {(place, x, x) for place in range(4) for x in range(8)}
    word, place, x, y = step[:4]
    if word == "tie":
        is_good = len(step) == 4 and ((place, x, y) in tied or (place, y, x) in tied)
    elif word == "rise":
        is_good = len(step) == 4 and kind != "free" and y == x + 1 and same_above(known, place, x)
    else:
        is_good = word == "chain" and len(step) == 5 and (place, x, y) in known and (place, y, step[4]) in known
    return (place, x, step[-1]) if is_good else None


class TestFacts(Case):

    def assert_forced(self, plan, pattern, name, ties, less):
        """Assert all that is told of the facts, and return what was asked."""
        kind, places = plan.scheme.kind_of(name), plan.scheme.places_of(name)
        facts = closed(plan, pattern, name, ties)
        forced = Forced(plan, pattern, name, ties=ties, less=less)
        top = max(pattern)
        self.assert_same([forced.top, forced.kind, forced.places, forced.ties, forced.less],
                         [top, kind, places, ties, less])
        versions = range(top + 1)
        for place, x, y in itertools.product(range(places), versions, versions):
            is_forced = (place, x, y) in facts
            self.assertIs(forced.at_most(place, x, y), is_forced)
            self.assertIs(forced.same(place, x, y), is_forced and (place, y, x) in facts)
            self.assert_steps(plan, pattern, name, forced, (place, x, y), is_forced)
        for place in range(places):
            self.assert_same(forced.classes(place), self.classes_of(facts, place, top))
        for place in range(places + 1):
            self.assert_same(forced.blocks(place), self.blocks_of(facts, kind, place, top))
        clashes = [x for x in versions[:-1] if kind == "strict" and same_above(facts, places, x)]
        self.assert_same(forced.clash, clashes[0] if clashes else None)
        self.assertIs(forced.is_barred, less is not None and (less[0], less[2], less[1]) in facts)
        self.assertIs(bool(forced), not clashes and not forced.is_barred)
        return forced

    def classes_of(self, facts, place, top):
        """The classes of the versions that are the same."""
        found = []
        for x in range(top + 1):
            alike = tuple(y for y in range(top + 1) if (place, x, y) in facts and (place, y, x) in facts)
            if alike not in found:
                found.append(alike)
        return tuple(found)

    def blocks_of(self, facts, kind, place, top):
        """The blocks of the versions that are the same at all places above."""
        found = [[0, 0]]
        for x in range(1, top + 1):
            if kind != "free" and same_above(facts, place, x - 1):
                found[-1][1] = x
            else:
                found.append([x, x])
        return tuple(tuple(block) for block in found)

    def assert_steps(self, plan, pattern, name, forced, fact, is_forced):
        """Assert that the steps show the fact if it is forced."""
        if not is_forced:
            self.assert_raises(NotForced, list(fact), forced.steps, *fact)
            return
        steps = forced.steps(*fact)
        self.assertIs(steps.__class__, tuple)
        self.assertLessEqual(len(steps), 400)
        if fact[1] == fact[2]:
            self.assert_same(steps, ())
            return
        tied = set(forced.ties) | {(plan.place_at(one)[1], pattern[one], pattern[other]) for one, other in plan.tests
                                   if plan.place_at(one)[0] == name}
        facts = set()
        for step in steps:
            told = follows(step, facts, forced.kind, tied)
            self.assertIsNotNone(told, (step, steps))
            facts.add(told)
        self.assertEqual(told, fact)
        told = shown(plan, pattern, name, steps, ties=forced.ties)
        self.assert_same(told[-1], fact)
        self.assertEqual(set(told), facts)

    def test_tests_copies_and_kinds(self):
        for kind in KINDS:
            for plan in plans_of(kind):
                for pattern in list(patterns(plan))[::2]:
                    self.assert_forced(plan, pattern, "n", (), None)

    def test_ties_and_less_wishes(self):
        for kind in KINDS:
            for plan in plans_of(kind):
                chosen = list(patterns(plan))
                for pattern in chosen[::len(chosen) // 8 + 1]:
                    for ties, less in wishes_of(plan, max(pattern)):
                        self.assert_forced(plan, pattern, "n", ties, less)

    def test_a_less_wish_forces_nothing(self):
        for less in [(0, 0, 1), (1, 1, 0), (0, 3, 2)]:
            wished = Forced(EXAMPLE, (0, 1, 2, 3), "n", less=less)
            plain = Forced(EXAMPLE, (0, 1, 2, 3), "n")
            for place in range(2):
                self.assert_same(wished.classes(place), plain.classes(place))
            self.assert_same(wished.clash, plain.clash)

    def test_several_numbers(self):
        numbers = [("a", 2, "strict"), ("m", 1, "free"), ("b", 2, "weak")]
        cells = [("b", 1), ("a", 1), ("m", 0), ("a", 0), ("b", 0)]
        plan = Plan(Scheme(numbers, cells), [2, 3, 1, 4, 0, 3, 0, 2], [(0, 7), (1, 5), (4, 6)])
        for pattern in list(patterns(plan))[::29]:
            for name in ("a", "m", "b"):
                top = max(pattern)
                for ties, less in [((), None), (((0, 0, top),), None), ((), (0, top, 0))]:
                    self.assert_forced(plan, pattern, name, ties, less)

    def test_eight_versions_and_four_places(self):
        tests = [(0, 7), (1, 6), (2, 5), (3, 4), (0, 4), (1, 5), (2, 6)]
        plan = plan_of(4, "strict", [0, 0, 0, 0, 0, 1, 2, 3], [3, 2, 1, 0] * 2, [(0, 4), (1, 5), (2, 6), (3, 7)])
        for pattern in list(patterns(plan))[-3:]:
            self.assert_forced(plan, pattern, "n", tuple((place, 0, max(pattern)) for place in range(4)), None)
        plan = plan_of(1, "weak", [0] * 4, [3, 3, 2, 2, 1, 1, 0, 0], tests)
        for pattern in list(patterns(plan))[-3:]:
            self.assert_forced(plan, pattern, "n", (), (0, 0, 1))
        deep = plan_of(4, "weak", [3, 2, 1, 0, 0, 0, 0, 0], [0] * 8, [])
        ties = tuple((place, x, 7 - x) for place in range(4) for x in range(4))
        self.assert_forced(deep, tuple(range(8)), "n", ties, None)
        forced = Forced(deep, tuple(range(8)), "n", ties=ties)
        self.assert_same(forced.blocks(4), ((0, 7),))
        self.assertIs(bool(forced), True)

    def test_the_documents_example(self):
        self.assert_same(list(patterns(EXAMPLE)), [
            (0, 0, 0, 0), (0, 0, 0, 1), (0, 0, 1, 1), (0, 1, 1, 1), (0, 0, 1, 2), (0, 1, 1, 2), (0, 1, 2, 2),
            (0, 1, 2, 3)])
        forced = Forced(EXAMPLE, (0, 1, 2, 3), "n")
        self.assert_same([forced.clash, bool(forced), forced.is_barred], [1, False, False])
        self.assert_same([forced.classes(0), forced.blocks(1)], [((0, 1, 2, 3),), ((0, 3),)])
        self.assert_same([forced.classes(1), forced.blocks(2)], [((0,), (1, 2), (3,)), ((0, 0), (1, 2), (3, 3))])
        self.assertIs(forced.at_most(1, 2, 1), True)
        self.assertIs(forced.at_most(1, 1, 0), False)
        self.assert_raises(NotForced, [1, 1, 0], forced.steps, 1, 1, 0)
        self.assert_same(Forced(EXAMPLE, (0, 0, 0, 1), "n").freest(), ((0, 0), (0, 1)))

    def test_no_name_comes_ahead_of_not_pattern(self):
        for name in anything() + ["x", "N", ("n", 0), ["n"]]:
            if name != "n":
                for pattern in [(0, 0, 0, 0), None, (0, 1)]:
                    self.assert_raises(NoName, [name], Forced, EXAMPLE, pattern, name)
                    self.assert_raises(NoName, [name], shown, EXAMPLE, pattern, name, None)

    def test_not_pattern(self):
        for pattern in anything() + [(0, 0, 0, True), [0, 0, 0, 0], (0, 0, 0), (1, 0, 0, 0), (0, 0, 2, 2)]:
            for call in (lambda: Forced(EXAMPLE, pattern, "n"), lambda: shown(EXAMPLE, pattern, "n", None)):
                with self.assertRaises(NotPattern) as caught:
                    call()
                self.assertIs(caught.exception.__class__, NotPattern)

    def test_the_same_again(self):
        ties = ((0, 0, 1), (1, 1, 1))
        for pattern in patterns(EXAMPLE):
            one, other = Forced(EXAMPLE, pattern, "n"), Forced(EXAMPLE, pattern, "n")
            self.assert_same([one.steps(0, 0, x) for x in range(one.top + 1)],
                             [other.steps(0, 0, x) for x in range(one.top + 1)])
            self.assert_stays(one.classes, 1)
            self.assert_stays(one.blocks, 2)
        forced = Forced(EXAMPLE, (0, 0, 1, 2), "n", ties=ties, less=(0, 0, 1))
        self.assert_same((ties, forced.ties), (((0, 0, 1), (1, 1, 1)),) * 2)


class TestRows(Case):

    def assert_freest(self, plan, pattern, ties, less):
        """Assert that the freest row is right, passes, and is as free and in the order that it should be."""
        kind, places = plan.scheme.numbers[0][2], plan.scheme.numbers[0][1]
        forced = Forced(plan, pattern, "n", ties=ties, less=less)
        if not bool(forced):
            self.assert_raises(NoRight, [forced.clash], forced.freest)
            return False
        row = forced.freest()
        self.assertIs(row.__class__, tuple)
        self.assertEqual([version.__class__ for version in row], [tuple] * (max(pattern) + 1))
        self.assertTrue(is_right(kind, row), row)
        self.assertTrue(passes(plan, pattern, "n", ties, less, row), row)
        facts = closed(plan, pattern, "n", ties)
        for place in range(places):
            column = [version[place] for version in row]
            self.assert_same(column, ordered(facts, place, max(pattern), less))
            for x, y in itertools.product(range(max(pattern) + 1), repeat=2):
                is_same = (place, x, y) in facts and (place, y, x) in facts
                self.assertIs(column[x] == column[y], is_same)
        self.assert_same(forced.freest(), row)
        return True

    def test_the_freest_row(self):
        told = set()
        for kind in KINDS:
            for plan in plans_of(kind):
                chosen = list(patterns(plan))
                for pattern in chosen[::len(chosen) // 12 + 1]:
                    for ties, less in wishes_of(plan, max(pattern)):
                        told.add((kind, less is None, self.assert_freest(plan, pattern, ties, less)))
        for kind in KINDS:
            self.assertIn((kind, True, True), told)
            self.assertIn((kind, False, True), told)
            self.assertIn((kind, False, False), told)
        self.assertIn(("strict", True, False), told)
        self.assertNotIn(("weak", True, False), told)

    def test_rows_exist_exactly_if_it_is_told_so(self):
        for kind in KINDS:
            for plan in plans_of(kind)[:5]:
                places = plan.scheme.numbers[0][1]
                for pattern in [pattern for pattern in patterns(plan) if max(pattern) < 3]:
                    digits = list(itertools.product(range(max(pattern) + 1), repeat=places))
                    rows = [row for row in itertools.product(digits, repeat=max(pattern) + 1) if is_right(kind, row)]
                    for ties, less in wishes_of(plan, max(pattern))[::3]:
                        right = [row for row in rows if passes(plan, pattern, "n", ties, less, row)]
                        forced = Forced(plan, pattern, "n", ties=ties, less=less)
                        self.assertIs(bool(forced), bool(right), (pattern, ties, less))
                        self.assert_facts_hold(forced, right)

    def assert_facts_hold(self, forced, rows):
        """Assert that each forced fact holds in all rows, and each other one fails in one, without a less wish."""
        versions = range(forced.top + 1)
        for place, x, y in itertools.product(range(forced.places), versions, versions):
            holds = all(row[x][place] <= row[y][place] for row in rows)
            if forced.at_most(place, x, y):
                self.assertTrue(holds)
            elif forced.less is None and rows:
                self.assertFalse(holds, (place, x, y))

    def test_no_right_row(self):
        forced = Forced(EXAMPLE, (0, 1, 2, 3), "n")
        self.assert_raises(NoRight, [1], forced.freest)
        # There is a clash, and the less wish is barred as well.
        forced = Forced(EXAMPLE, (0, 1, 2, 3), "n", less=(0, 0, 1))
        self.assert_same([forced.clash, forced.is_barred], [1, True])
        self.assert_raises(NoRight, [1], forced.freest)
        # The less wish alone is barred.
        forced = Forced(EXAMPLE, (0, 0, 0, 1), "n", less=(0, 1, 0))
        self.assert_same([forced.clash, forced.is_barred, bool(forced)], [None, True, False])
        self.assert_raises(NoRight, [None], forced.freest)
        forced = Forced(EXAMPLE, (0, 0, 0, 1), "n", less=(1, 0, 0))
        self.assert_raises(NoRight, [None], forced.freest)
        forced = Forced(EXAMPLE, (0, 0, 0, 1), "n", ties=((1, 0, 1),))
        self.assert_raises(NoRight, [0], forced.freest)

    def test_the_order_of_digits(self):
        plan = plan_of(1, "free", [0, 0, 0, 0], [0, 1, 2, 3])
        pattern = (1, 0, 2, 3)
        self.assert_same(Forced(plan, pattern, "n").freest(), ((0,), (1,), (2,), (3,)))
        self.assert_same(Forced(plan, pattern, "n", less=(0, 3, 0)).freest(), ((3,), (0,), (1,), (2,)))
        self.assert_same(Forced(plan, pattern, "n", less=(0, 2, 0)).freest(), ((2,), (0,), (1,), (3,)))
        self.assert_same(Forced(plan, pattern, "n", ties=((0, 0, 2),), less=(0, 3, 2)).freest(),
                         ((2,), (0,), (2,), (1,)))
        weak = plan_of(2, "weak", [0, 1], [0, 0, 0])
        self.assert_same(Forced(weak, (0, 1, 2), "n", ties=((0, 0, 2),)).freest(), ((0, 0), (0, 1), (0, 2)))
        self.assert_same(Forced(weak, (0, 1, 2), "n", ties=((0, 0, 1),)).freest(), ((0, 0), (0, 1), (1, 2)))
        self.assert_same(Forced(weak, (0, 1, 2), "n", less=(1, 2, 0)).freest(), ((0, 2), (1, 0), (2, 1)))


def ordered(facts, place, top, less):
    """The digits at a place by the words of [32]."""
    digits = [None] * (top + 1)
    for digit in range(top + 1):
        for version in range(top + 1):
            if digits[version] is None and all(digits[other] is not None for other in lesser(facts, place, version, top, less)):
                for other in range(top + 1):
                    if (place, version, other) in facts and (place, other, version) in facts:
                        digits[other] = digit
                break
    return digits


def lesser(facts, place, version, top, less):
    """The versions whose class must have a lesser digit than that of the version."""
    alike = [x for x in range(top + 1) if (place, version, x) in facts and (place, x, version) in facts]
    found = [x for x in range(top + 1) if (place, x, version) in facts and x not in alike]
    if less is not None and less[0] == place and less[2] in alike:
        found.append(less[1])
    return found


if __name__ == "__main__":
    unittest.main()
