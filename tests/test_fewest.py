"""Full plans, first readings and the fewest looks [45]."""

import itertools
import unittest

from risingread.errors import NoName, NoPlan, NoPromise, TooMany
from risingread.fewest import Fewest, fewest_looks, first_reading, full_plan, shows_fewest
from risingread.judge import broken_by, judge
from risingread.lookers import shows_breaks, shows_holds
from risingread.patterns import patterns
from risingread.plans import Plan
from risingread.schemes import Scheme
from tests.brute import KINDS, least_versions
from tests.helper import Case, anything, plan_of, readings_of

AIMS = ("below", "above", "between", "stood")
LAYOUT = Plan.layout("n", 2, 1)[0]
MARKED = Scheme([("m", 1, "strict"), ("n", 2, "free")], [("m", 0), ("n", 1), ("n", 0), ("m", 0)])


def schemes():
    """Schemes with two cells, three and four."""
    found = [LAYOUT, MARKED, Plan.layout("n", 2, 0)[0]]
    for kind in KINDS:
        found.append(Scheme([("n", 2, kind)], [("n", 1), ("n", 0)]))
        found.append(Scheme([("n", 1, kind)], [("n", 0), ("n", 0)]))
        found.append(Scheme([("n", 2, kind)], [("n", 1), ("n", 0), ("n", 1)]))
        found.append(Scheme([("n", 1, "weak"), ("m", 1, kind)], [("n", 0), ("m", 0)]))
    return found


def rows_of(scheme, name, most):
    """The rows that are gone through, by their length and then ascending."""
    places = {cell for cell in scheme.cells if cell[0] == name}
    for many in range(1, most + 1):
        for row in itertools.product(range(len(scheme.cells)), repeat=many):
            if all(one != other for one, other in zip(row, row[1:])) and places <= {scheme.cells[cell] for cell in row}:
                yield row


def aims_of(scheme, name):
    """The aims that a reading of the number may have."""
    return AIMS if scheme.kind_of(name) != "free" else ("stood",)


class TestFullPlans(Case):

    def test_each_look_against_the_next_one_at_its_place(self):
        for scheme in schemes():
            for many in range(1, 5):
                for looks in itertools.product(range(len(scheme.cells)), repeat=many):
                    plan = full_plan(scheme, list(looks))
                    wanted = []
                    for one in range(many):
                        behind = [other for other in range(one + 1, many)
                                  if scheme.cells[looks[one]] == scheme.cells[looks[other]]]
                        if behind:
                            wanted.append((one, behind[0]))
                    self.assertEqual(plan, Plan(scheme, list(looks), wanted))
                    self.assert_same(plan.tests, tuple(sorted(wanted)))

    def test_eight_looks(self):
        plan = full_plan(Scheme([("n", 1, "weak")], [("n", 0)] * 8), list(range(8)))
        self.assert_same(plan.tests, tuple((look, look + 1) for look in range(7)))
        plan = full_plan(LAYOUT, [0, 1, 2, 1, 0, 1, 2, 1])
        self.assert_same(plan.tests, ((0, 2), (1, 3), (2, 4), (3, 5), (4, 6), (5, 7)))

    def test_no_plan(self):
        for looks, at in [([], None), ((0, 1), None), (None, None), ([0, 3], 1), ([True], 0), ([0, None, 9], 1),
                          ([0] * 9, 8), ([-1], 0), ({0: 1}, None), ("01", None), ([[0]], 0)]:
            self.assert_raises(NoPlan, ["looks", at], full_plan, LAYOUT, looks)
        looks = [0, 1, 2]
        full_plan(LAYOUT, looks)
        self.assert_same(looks, [0, 1, 2])

    def test_which_look_a_reading_names_does_not_matter(self):
        for scheme in schemes()[:8]:
            for row in list(rows_of(scheme, "n", 4))[::5]:
                plan = full_plan(scheme, list(row))
                for aim in aims_of(scheme, "n"):
                    told = {bool(judge(plan, (aim, reading))) for reading in readings_of(plan) if reading[0] == "n"}
                    self.assertEqual(len(told), 1)

    def test_if_a_plan_keeps_a_promise_the_full_plan_does(self):
        found = 0
        for scheme in schemes()[:8]:
            for row in list(rows_of(scheme, "n", 4))[::5]:
                plan = Plan(scheme, list(row), [])
                for aim in aims_of(scheme, "n"):
                    if bool(judge(plan, (aim, first_reading(plan, "n")))):
                        found += 1
                        self.assertIs(bool(judge(full_plan(scheme, list(row)), (aim, first_reading(plan, "n")))), True)
        self.assertGreater(found, 20)

    def test_neighbours_that_are_equal_do_not_help(self):
        for scheme in schemes()[:8]:
            for row in list(rows_of(scheme, "n", 3))[::3]:
                plan = full_plan(scheme, list(row))
                for at in range(len(row)):
                    longer = full_plan(scheme, list(row[:at + 1] + row[at:]))
                    for aim in aims_of(scheme, "n"):
                        self.assertIs(bool(judge(plan, (aim, first_reading(plan, "n")))),
                                      bool(judge(longer, (aim, first_reading(longer, "n")))))


class TestFirstReadings(Case):

    def test_the_first_look_at_each_place(self):
        plan = plan_of(2, "weak", [1, 0, 1], [2, 1, 0, 1, 2])
        self.assert_same(first_reading(plan, "n"), ("n", (1, 0)))
        for scheme in schemes():
            for many in range(1, 4):
                for looks in itertools.product(range(len(scheme.cells)), repeat=many):
                    plan = Plan(scheme, list(looks), [])
                    for name, _, _ in scheme.numbers:
                        known = sorted(reading for reading in readings_of(plan) if reading[0] == name)
                        self.assert_same(first_reading(plan, name), known[0] if known else None)

    def test_no_name(self):
        plan = full_plan(LAYOUT, [0, 1, 2])
        for thing in anything() + ["m", ("n",), ["n"], ("n", (0, 1)), ""]:
            if thing != "n":
                self.assertIsNone(first_reading(plan, thing))
        self.assertIsNone(first_reading(full_plan(MARKED, [0, 1]), "n"))
        self.assert_same(first_reading(full_plan(MARKED, [0, 1]), "m"), ("m", (0,)))


class TestFewestLooks(Case):

    def assert_fewest(self, scheme, name, aim, most):
        """Assert that what is told is what a search of all rows finds, and return it."""
        found = fewest_looks(scheme, name, aim, most)
        self.assertIs(found.__class__, Fewest)
        broken = []
        looks, table = None, ()
        for row in rows_of(scheme, name, most):
            plan = full_plan(scheme, list(row))
            verdict = judge(plan, (aim, first_reading(plan, name)))
            if bool(verdict):
                looks, table = row, verdict.rows
                break
            broken.append(row)
        self.assert_same(found.looks, looks)
        self.assert_same(found.table, table)
        self.assertIs(found.broken.__class__, tuple)
        self.assert_same([row for row, _ in found.broken], broken)
        for pair in found.broken:
            plan = full_plan(scheme, list(pair[0]))
            self.assertIs(pair.__class__, tuple)
            self.assertIs(shows_breaks(plan, (aim, first_reading(plan, name)), pair[1]), True)
        if looks is not None:
            plan = full_plan(scheme, list(looks))
            self.assertIs(shows_holds(plan, (aim, first_reading(plan, name)), found.table), True)
        self.assertIs(shows_fewest(scheme, name, aim, most, found), True)
        return found

    def test_beside_a_search_of_all_rows(self):
        told = {}
        for scheme in schemes():
            for name, _, _ in scheme.numbers:
                for aim in aims_of(scheme, name):
                    for most in range(1, 4 if len(scheme.cells) > 2 else 6):
                        found = self.assert_fewest(scheme, name, aim, most)
                        told.setdefault(aim, set()).add(None if found.looks is None else len(found.looks))
        for aim in AIMS:
            self.assertIn(None, told[aim])
            self.assertGreater(len(told[aim]), 2)

    def test_beside_a_search_of_all_runs(self):
        for kind in KINDS:
            for cells in ([1, 0], [1, 0, 1]):
                scheme = plan_of(2, kind, cells, [0]).scheme
                for aim in aims_of(scheme, "n"):
                    found = fewest_looks(scheme, "n", aim, 3)
                    for row in rows_of(scheme, "n", 3):
                        plan = full_plan(scheme, list(row))
                        wanted = least_versions(plan, (aim, first_reading(plan, "n")), len(row), 3)
                        self.assertIs(wanted is None, row == found.looks)
                        if row == found.looks:
                            break

    def test_the_documents_example(self):
        found = self.assert_fewest(LAYOUT, "n", "stood", 3)
        self.assert_same([found.looks, len(found.broken)], [(2, 1, 0), 12])
        rows = [(0, 1), (1, 0), (1, 2), (2, 1), (0, 1, 0), (0, 1, 2), (0, 2, 1), (1, 0, 1), (1, 0, 2), (1, 2, 0),
                (1, 2, 1), (2, 0, 1)]
        self.assert_same([row for row, _ in found.broken], rows)

    def test_looks_at_another_number_help(self):
        found = self.assert_fewest(MARKED, "n", "stood", 4)
        self.assert_same(found.looks, (3, 1, 2, 0))
        self.assertIsNone(self.assert_fewest(MARKED, "n", "stood", 3).looks)

    def test_none(self):
        scheme = Scheme([("n", 2, "strict")], [("n", 1), ("n", 0)])
        found = self.assert_fewest(scheme, "n", "stood", 5)
        self.assert_same([found.looks, found.table, len(found.broken)], [None, (), 8])
        found = self.assert_fewest(scheme, "n", "above", 1)
        self.assert_same([found.looks, found.table, found.broken], [None, (), ()])

    def test_errors(self):
        five = Scheme([("n", 1, "strict"), ("m", 1, "free")], [("n", 0)] * 4 + [("m", 0)])
        for thing in anything() + ["x", ("n",)]:
            if thing != "n":
                self.assert_raises(NoName, [thing], fewest_looks, five, thing, "nonsense", 3)
        for thing in anything() + ["order", "together", "Below", ["below"], ("below",)]:
            self.assert_raises(NoPromise, [thing], fewest_looks, five, "n", thing, 3)
            self.assert_raises(NoPromise, [thing], fewest_looks, LAYOUT, "n", thing, 3)
            self.assert_raises(NoPromise, [thing], fewest_looks, five, "m", thing, 3)
        for aim in ("below", "above", "between"):
            self.assert_raises(NoPromise, [aim], fewest_looks, five, "m", aim, 3)
        for aim in AIMS:
            self.assert_raises(TooMany, [4], fewest_looks, five, "n", aim, 3)
        self.assert_raises(TooMany, [4], fewest_looks, five, "m", "stood", 3)

    def test_the_same_again_and_new_dicts(self):
        one, other = fewest_looks(LAYOUT, "n", "stood", 3), fewest_looks(LAYOUT, "n", "stood", 3)
        self.assertTrue(one == other)
        one.broken[0][1][0][0]["n"] = (7, 7)
        self.assertFalse(one == other)
        self.assertEqual(fewest_looks(LAYOUT, "n", "stood", 3), other)


class TestShowsFewest(Case):

    def setUp(self):
        self.found = fewest_looks(LAYOUT, "n", "stood", 3)

    def assert_tells(self, wanted, looks, table, broken, most=3):
        """Assert what is told of these attributes."""
        self.assertIs(shows_fewest(LAYOUT, "n", "stood", most, Fewest(looks, table, broken)), wanted)

    def test_lists_in_the_place_of_tuples(self):
        looks, table, broken = self.found.looks, self.found.table, self.found.broken
        self.assert_tells(True, looks, list(table), list(broken))
        self.assert_tells(True, looks, table, [(row, (list(run[0]), list(run[1]))) for row, run in broken])
        self.assert_tells(False, list(looks), table, broken)
        self.assert_tells(False, looks, [list(row) for row in table], broken)
        self.assert_tells(False, looks, table, [list(pair) for pair in broken])
        self.assert_tells(False, looks, table, [(list(row), run) for row, run in broken])

    def test_rows_left_out_put_twice_and_exchanged(self):
        looks, table, broken = self.found.looks, self.found.table, self.found.broken
        self.assert_tells(True, looks, table, broken)
        for at in range(len(broken)):
            self.assert_tells(False, looks, table, broken[:at] + broken[at + 1:])
            self.assert_tells(False, looks, table, broken[:at] + broken[at:at + 1] + broken[at:])
            for other in range(at):
                turned = list(broken)
                turned[at], turned[other] = broken[other], broken[at]
                self.assert_tells(False, looks, table, turned)
        for at in range(len(table)):
            self.assert_tells(False, looks, table[:at] + table[at + 1:], broken)
            self.assert_tells(False, looks, table[:at] + table[at:at + 1] + table[at:], broken)
        self.assert_tells(False, looks, table[::-1], broken)
        self.assert_tells(False, looks, (), broken)

    def test_a_run_that_breaks_nothing(self):
        looks, table, broken = self.found.looks, self.found.table, self.found.broken
        for at, (row, run) in enumerate(broken):
            for wrong in [(run[0], ("look",) * len(row)), (run[0], run[1] + ("look",)), (run[0], run[1][:-1]), run[0],
                          None, (run[0][::-1], run[1]), broken[at - 1][1] if len(broken[at - 1][0]) != len(row) else ()]:
                self.assert_tells(False, looks, table, broken[:at] + ((row, wrong),) + broken[at + 1:])
            for pair in [(row,), (row, run, run), row, None, (run, row), (row[::-1] + (1,), run)]:
                self.assert_tells(False, looks, table, broken[:at] + (pair,) + broken[at + 1:])
            bools = tuple(cell == 1 if cell < 2 else cell for cell in row)
            self.assert_tells(False, looks, table, broken[:at] + ((bools, run),) + broken[at + 1:])

    def test_another_run_that_breaks_it_shows_it_too(self):
        looks, table, broken = self.found.looks, self.found.table, self.found.broken
        plan = full_plan(LAYOUT, [0, 1])
        promise = ("stood", first_reading(plan, "n"))
        runs = [run for run in (broken_by(plan, pattern, promise) for pattern in patterns(plan)) if run is not None]
        longer = (runs[0][0] + ({"n": (50, 50)},), runs[0][1])
        for run in runs + [longer]:
            self.assert_tells(True, looks, table, (((0, 1), run),) + broken[1:])

    def test_another_row_of_looks(self):
        table, broken = self.found.table, self.found.broken
        for looks in [(0, 1), (2, 0, 1), (2, 1, 2), (2, 1, 0, 1), (), (0, 2), (2, True, False), None, "210", 210, {},
                      (2, 1), (0, 0), (2, 1, 3)]:
            self.assert_tells(False, looks, table, broken)
            self.assert_tells(False, looks, (), broken)
        self.assert_tells(False, self.found.looks, table, broken, 2)
        self.assert_tells(True, self.found.looks, table, broken, 4)

    def test_none(self):
        found = fewest_looks(LAYOUT, "n", "stood", 2)
        self.assert_same([found.looks, found.table, len(found.broken)], [None, (), 4])
        self.assert_tells(True, None, (), found.broken, 2)
        self.assert_tells(True, None, [], list(found.broken), 2)
        self.assert_tells(False, None, (), found.broken, 3)
        self.assert_tells(False, None, (), found.broken, 1)
        self.assert_tells(False, None, (), found.broken[:-1], 2)
        self.assert_tells(True, None, (), (), 1)
        for table in [None, 0, "", {}, ((),), self.found.table, False]:
            self.assert_tells(False, None, table, found.broken, 2)
        for broken in [None, 0, "", {}, False]:
            self.assert_tells(False, None, (), broken, 1)

    def test_any_other_value(self):
        looks, table, broken = self.found.looks, self.found.table, self.found.broken
        for thing in anything() + [(looks, table, broken), LAYOUT, judge(full_plan(LAYOUT, [0, 1]), ("together", (0, 1)))]:
            self.assertIs(shows_fewest(LAYOUT, "n", "stood", 3, thing), False)
            self.assert_tells(False, thing, table, broken)
            self.assert_tells(False, looks, thing, broken)
            self.assert_tells(False, looks, table, thing)
            self.assert_tells(False, looks, table, [thing] * len(broken))

    def test_of_another_number_aim_or_scheme(self):
        # With too few looks nothing is to be shown but for the number and the aim.
        empty = Fewest(None, (), ())
        self.assertIs(shows_fewest(LAYOUT, "n", "stood", 1, empty), True)
        for name, aim, most in [("m", "stood", 1), (["n"], "stood", 1), ("n", "order", 1), ("n", None, 1), ("n", ["stood"], 1),
                                ("n", "stood", None), ("n", "stood", True), ("n", "stood", "1")]:
            self.assertIs(shows_fewest(LAYOUT, name, aim, most, empty), False)
        self.assertIs(shows_fewest(MARKED, "n", "below", 1, empty), False)
        self.assertIs(shows_fewest(LAYOUT, "n", "stood", 3, self.found), True)
        self.assertIs(shows_fewest(LAYOUT, "n", "between", 3, self.found), False)
        self.assertIs(shows_fewest(LAYOUT, "n", "below", 3, self.found), False)
        self.assertIs(shows_fewest(LAYOUT, "m", "stood", 3, self.found), False)
        self.assertIs(shows_fewest(LAYOUT, "n", "order", 3, self.found), False)
        self.assertIs(shows_fewest(MARKED, "n", "stood", 3, self.found), False)
        self.assertIs(shows_fewest(Plan.layout("n", 2, 0)[0], "n", "stood", 3, self.found), False)


class TestMadeByHand(Case):

    def test_attributes_and_equality(self):
        for thing in anything():
            one = Fewest(thing, 1, ())
            self.assert_same([one.looks, one.table, one.broken], [thing, 1, ()])
            self.assertTrue(one == Fewest(thing, 1, ()))
            self.assertFalse(one == Fewest(thing, 2, ()))
            self.assertFalse(one == Fewest(thing, 1, (0,)))
            self.assertFalse(one == Fewest((thing, thing), 1, ()))
            self.assertFalse(one == (thing, 1, ()))
            self.assertFalse(one == thing)

    def test_what_is_kept_is_copied(self):
        looks = [{"n": [0]}]
        one = Fewest(looks, looks, (looks,))
        looks[0]["n"].append(2)
        looks.append(3)
        self.assert_same([one.looks, one.table, one.broken], [[{"n": [0]}], [{"n": [0]}], ([{"n": [0]}],)])


if __name__ == "__main__":
    unittest.main()
