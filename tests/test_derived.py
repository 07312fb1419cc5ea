"""Derivations [33], checked step by step."""

import unittest

from risingread.derived import shown
from risingread.errors import BadStep, NoName, NotPattern
from risingread.forced import Forced
from risingread.patterns import patterns
from risingread.plans import Plan
from risingread.schemes import Scheme
from tests.helper import Case, anything, plan_of
from tests.test_forced import EXAMPLE, KINDS, plans_of

RISING = (0, 1, 2, 3)
STEPS = (("rise", 0, 2, 3), ("tie", 0, 3, 0), ("chain", 0, 2, 3, 0), ("rise", 0, 0, 1), ("chain", 0, 2, 0, 1))
FACTS = [(0, 2, 3), (0, 3, 0), (0, 2, 0), (0, 0, 1), (0, 2, 1)]
NO_STEPS = [
    ("tie", 0, 3), ("tie", 0, 3, 0, 0), ("tie",), (), ["tie", 0, 3, 0], "tie", ("Tie", 0, 3, 0), ("", 0, 3, 0),
    (None, 0, 3, 0), (0, 0, 3, 0), (["tie"], 0, 3, 0), ({}, 0, 3, 0), (("tie",), 0, 3, 0), ("fact", 0, 0, 0),
    ("tie", 1, 3, 0), ("tie", 2, 3, 0), ("tie", -1, 1, 2), ("tie", False, 3, 0), ("tie", "0", 3, 0),
    ("tie", None, 3, 0), ("tie", [0], 3, 0), ("tie", 0, 3, False), ("tie", 0, 3, 4), ("tie", 0, -1, 0),
    ("tie", 0, 3, None), ("tie", 0, "3", "0"), ("tie", 0, [3], 0), ("tie", 0, {}, 0), ("tie", 0, 3, 10 ** 59),
    ("tie", 0, 0, 0), ("tie", 0, 1, 1), ("tie", 0, 1, 2), ("tie", 0, 0, 1), ("tie", 1, 1, 1),
    ("rise", 0, 2), ("rise", 0, 2, 3, 3), ("rise", 0, 3, 4), ("rise", 0, -1, 0), ("rise", 0, 2, 1), ("rise", 0, 2, 2),
    ("rise", 0, 0, 2), ("rise", 1, 0, 1), ("rise", 2, 0, 1), ("rise", 0, 0, True), ("rise", 0, False, 1),
    ("rise", False, 0, 1), ("rise", 0, "0", 1), ("rise", 0, None, 1), ("rise", 0, [0], 1),
    ("chain", 0, 2, 3), ("chain", 0, 2, 3, 0, 0), ("chain", 0, 2, 3, 1), ("chain", 0, 0, 1, 2), ("chain", 1, 2, 3, 0),
    ("chain", 2, 0, 0, 0), ("chain", 0, 4, 4, 4), ("chain", 0, -1, -1, -1), ("chain", 0, 0, 0, False),
    ("chain", 0, 0, 0, "0"), ("chain", 0, [0], [0], [0]), ("chain", 0, None, None, None),
]


class TestShown(Case):

    def test_the_documents_example(self):
        self.assert_same(shown(EXAMPLE, RISING, "n", STEPS), FACTS)
        self.assert_same(shown(EXAMPLE, RISING, "n", list(STEPS)), FACTS)
        for many in range(6):
            self.assert_same(shown(EXAMPLE, RISING, "n", STEPS[:many]), FACTS[:many])

    def test_what_forced_tells(self):
        for kind in KINDS:
            for plan in plans_of(kind)[:3]:
                for pattern in patterns(plan):
                    forced = Forced(plan, pattern, "n")
                    facts = [(place, x, y) for place in range(forced.places) for x in range(forced.top + 1)
                             for y in range(forced.top + 1) if x != y and forced.at_most(place, x, y)]
                    for fact in facts:
                        told = shown(plan, pattern, "n", forced.steps(*fact))
                        self.assertEqual(told[-1], fact)
                        for place, x, y in told:
                            self.assertIs(forced.at_most(place, x, y), True)

    def test_ties(self):
        # In either order, and of a version with itself if there is such a test.
        self.assert_same(shown(EXAMPLE, RISING, "n", (("tie", 0, 0, 3), ("tie", 0, 3, 0), ("tie", 1, 1, 2), ("tie", 1, 2, 1))),
                         [(0, 0, 3), (0, 3, 0), (1, 1, 2), (1, 2, 1)])
        self.assert_same(shown(EXAMPLE, (0, 1, 1, 2), "n", (("tie", 1, 1, 1),)), [(1, 1, 1)])
        self.assert_raises(BadStep, [0], shown, EXAMPLE, (0, 1, 1, 2), "n", (("tie", 0, 1, 1),))
        self.assert_raises(BadStep, [0], shown, EXAMPLE, (0, 1, 1, 2), "n", (("tie", 1, 0, 0),))

    def test_ties_that_are_passed(self):
        ties = ((1, 0, 2), (0, 2, 2))
        steps = (("tie", 1, 2, 0), ("tie", 1, 0, 2), ("tie", 0, 2, 2), ("tie", 0, 0, 3))
        told = shown(EXAMPLE, RISING, "n", steps, ties=ties)
        self.assert_same(told, [(1, 2, 0), (1, 0, 2), (0, 2, 2), (0, 0, 3)])
        for at in range(3):
            self.assert_raises(BadStep, [0], shown, EXAMPLE, RISING, "n", steps[at:])
        self.assert_raises(BadStep, [0], lambda: shown(EXAMPLE, RISING, "n", (("tie", 0, 0, 2),), ties=ties))
        self.assert_same(ties, ((1, 0, 2), (0, 2, 2)))

    def test_rises_need_the_places_above(self):
        same = [("rise", 0, 0, 1), ("rise", 0, 1, 2), ("rise", 0, 2, 3), ("tie", 0, 3, 0), ("chain", 0, 1, 2, 3),
                ("chain", 0, 1, 3, 0)]
        self.assert_same(shown(EXAMPLE, RISING, "n", same + [("rise", 1, 0, 1)])[-1], (1, 0, 1))
        for lacking in range(6):
            steps = same[:lacking] + same[lacking + 1:] + [("rise", 1, 0, 1)]
            with self.assertRaises(BadStep):
                shown(EXAMPLE, RISING, "n", steps)
        self.assert_raises(BadStep, [6], shown, EXAMPLE, RISING, "n", same + [("rise", 1, 1, 2)])
        # One way only is not enough.
        self.assert_raises(BadStep, [1], shown, EXAMPLE, RISING, "n", (same[0], ("rise", 1, 0, 1)))

    def test_rises_need_each_place_above(self):
        plan = plan_of(3, "weak", [0, 1, 2], [0, 0])
        ties = ((0, 0, 1), (1, 0, 1))
        steps = [("tie", 0, 0, 1), ("tie", 0, 1, 0), ("tie", 1, 0, 1), ("tie", 1, 1, 0), ("rise", 2, 0, 1)]
        self.assert_same(shown(plan, (0, 1), "n", steps, ties=ties)[-1], (2, 0, 1))
        for lacking in range(4):
            left = steps[:lacking] + steps[lacking + 1:]
            self.assert_raises(BadStep, [3], lambda: shown(plan, (0, 1), "n", left, ties=ties))

    def test_rises_of_free_numbers(self):
        for kind in KINDS:
            plan = plan_of(1, kind, [0], [0, 0])
            if kind == "free":
                self.assert_raises(BadStep, [0], shown, plan, (0, 1), "n", (("rise", 0, 0, 1),))
            else:
                self.assert_same(shown(plan, (0, 1), "n", (("rise", 0, 0, 1),)), [(0, 0, 1)])

    def test_chains_of_what_needs_no_step(self):
        steps = (("chain", 1, 2, 2, 2), ("rise", 0, 0, 1), ("chain", 0, 0, 0, 1), ("chain", 0, 0, 1, 1))
        self.assert_same(shown(EXAMPLE, RISING, "n", steps), [(1, 2, 2), (0, 0, 1), (0, 0, 1), (0, 0, 1)])
        self.assert_raises(BadStep, [0], shown, EXAMPLE, RISING, "n", (("chain", 0, 0, 0, 1),))

    def test_several_numbers(self):
        scheme = Scheme([("a", 1, "strict"), ("b", 2, "free")], [("a", 0), ("b", 0), ("b", 1)])
        plan = Plan(scheme, [0, 1, 0, 1], [(0, 2), (1, 3)])
        self.assert_same(shown(plan, (0, 0, 1, 1), "a", (("tie", 0, 1, 0), ("rise", 0, 0, 1))), [(0, 1, 0), (0, 0, 1)])
        self.assert_same(shown(plan, (0, 0, 1, 1), "b", (("tie", 0, 1, 0),)), [(0, 1, 0)])
        self.assert_raises(BadStep, [0], shown, plan, (0, 0, 1, 1), "a", (("tie", 1, 1, 0),))
        self.assert_raises(BadStep, [0], shown, plan, (0, 0, 1, 2), "a", (("tie", 0, 2, 0),))
        self.assert_same(shown(plan, (0, 0, 1, 2), "b", (("tie", 0, 2, 0),)), [(0, 2, 0)])
        self.assert_same(shown(plan, (0, 0, 1, 1), "b", (("chain", 1, 0, 0, 0),)), [(1, 0, 0)])
        self.assert_raises(BadStep, [0], shown, plan, (0, 0, 1, 1), "a", (("chain", 1, 0, 0, 0),))


class TestBadSteps(Case):

    def test_a_step_that_is_none(self):
        for wrong in NO_STEPS + anything():
            for at in range(5):
                steps = list(STEPS)
                steps[at] = wrong
                self.assert_raises(BadStep, [at], shown, EXAMPLE, RISING, "n", steps)
                self.assert_raises(BadStep, [at], shown, EXAMPLE, RISING, "n", tuple(steps[:at + 1]) + (wrong,))

    def test_steps_that_lack_one(self):
        for lacking, wrong in [(0, 1), (1, 1), (2, 3), (3, 3)]:
            steps = STEPS[:lacking] + STEPS[lacking + 1:]
            self.assert_raises(BadStep, [wrong], shown, EXAMPLE, RISING, "n", steps)
        self.assert_same(shown(EXAMPLE, RISING, "n", STEPS[:4]), FACTS[:4])

    def test_steps_that_are_exchanged(self):
        for one, other, wrong in [(0, 2, 0), (1, 2, 1), (2, 4, 2), (3, 4, 3), (0, 4, 0)]:
            steps = list(STEPS)
            steps[one], steps[other] = steps[other], steps[one]
            self.assert_raises(BadStep, [wrong], shown, EXAMPLE, RISING, "n", steps)
        for order in [(1, 0, 2, 3, 4), (0, 3, 1, 2, 4), (3, 1, 0, 2, 4)]:
            told = shown(EXAMPLE, RISING, "n", [STEPS[at] for at in order])
            self.assert_same(told, [FACTS[at] for at in order])

    def test_another_word_place_or_version(self):
        for at, step in enumerate(STEPS):
            for item in range(len(step)):
                for other in ("tie", "rise", "chain") if item == 0 else range(4):
                    changed = step[:item] + (other,) + step[item + 1:]
                    steps = STEPS[:at] + (changed,)
                    wanted = fact_of(changed, FACTS[:at])
                    if wanted is None:
                        self.assert_raises(BadStep, [at], shown, EXAMPLE, RISING, "n", steps)
                    else:
                        self.assert_same(shown(EXAMPLE, RISING, "n", steps), FACTS[:at] + [wanted])

    def test_the_first_step_that_does_not_follow(self):
        self.assert_raises(BadStep, [1], shown, EXAMPLE, RISING, "n", STEPS[:1] + (None, None) + STEPS)
        self.assert_raises(BadStep, [0], shown, EXAMPLE, RISING, "n", STEPS[::-1])
        self.assert_raises(BadStep, [5], shown, EXAMPLE, RISING, "n", STEPS + (("chain", 0, 1, 3, 0),) + (None,))

    def test_no_tuple_or_list(self):
        things = [thing for thing in anything() if not isinstance(thing, (tuple, list))]
        for steps in things + ["tie", {0: STEPS[0]}]:
            self.assert_raises(BadStep, [0], shown, EXAMPLE, RISING, "n", steps)
        for steps in ((), []):
            self.assert_same(shown(EXAMPLE, RISING, "n", steps), [])
            self.assert_same(shown(EXAMPLE, (0, 0, 0, 0), "n", steps), [])

    def test_what_forced_raises_comes_first(self):
        for steps in (None, [None], STEPS):
            self.assert_raises(NoName, ["x"], shown, EXAMPLE, (0, 1), "x", steps)
            with self.assertRaises(NotPattern) as caught:
                shown(EXAMPLE, (0, 1), "n", steps)
            self.assertIs(caught.exception.__class__, NotPattern)

    def test_the_same_again(self):
        self.assert_stays(shown, EXAMPLE, RISING, "n", list(STEPS))


def fact_of(step, facts):
    """The fact that a step of the example shows; None if it does not follow from these."""
    tied = [(0, 0, 3), (0, 3, 0), (1, 1, 2), (1, 2, 1)]
    if len(step) != (5 if step[0] == "chain" else 4) or not 0 <= step[1] < 2:
        return None
    known = facts + [(place, x, x) for place in range(2) for x in range(4)]
    if step[0] == "chain":
        is_good = (step[1], step[2], step[3]) in known and (step[1], step[3], step[4]) in known
    elif step[0] == "tie":
        is_good = step[1:] in tied
    else:
        is_good = step[1] == 0 and step[3] == step[2] + 1
    return (step[1], step[2], step[-1]) if is_good else None


if __name__ == "__main__":
    unittest.main()
