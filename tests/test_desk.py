"""The desk [51]."""

import itertools
import unittest

from risingread.desk import Desk
from risingread.errors import NoLine, NoPlan, NoPromise, NoScheme
from risingread.judge import judge
from risingread.patterns import how_many
from risingread.plans import Plan
from risingread.schemes import Scheme
from risingread.texts import read_promise, read_run, show_plan, show_promise, show_run
from tests.brute import middle_plans, small_plans
from tests.helper import Case, anything, plan_of, promises_of

TOLD = ["numbers n 2 strict", "cells n 1 n 0", "looks 1 0", "tests none"]
NO_LINES = [
    "", " ", "\n", "patterns ", " patterns", "patterns\n", "\npatterns", "Patterns", "pattern", "patterns 1", "ok", "holds",
    "numbers", "numbers n", "numbers n 2", "numbers n 2 strict ", "numbers n 2 strict m", "numbers n 2 strict m 1",
    "numbers n  2 strict", " numbers n 2 strict", "numbers n 02 strict", "numbers n 002 strict", "numbers n 100 strict",
    "numbers n -2 strict", "numbers n +2 strict", "numbers n x strict", "numbers n 2.0 strict", "numbers n 2\n strict",
    "numbers 2 n strict", "numbers n \u0662 strict", "numbers n 2 strict 2 m strict",
    "cells", "cells n", "cells n 0 n", "cells n 00", "cells n 100", "cells n -1", "cells n n", "cells  n 0", "cells n 0 ",
    "cells n 0 0 n", "cells none",
    "looks", "looks ", "looks n", "looks 0 ", "looks  0", "looks 00", "looks 01", "looks 100", "looks 0 n", "looks none",
    "looks -1", "looks 0,1", "looks 0\n1", "looks 1_0",
    "tests", "tests 0", "tests 0 1 2", "tests none ", "tests  none", "tests none none", "tests none 0", "tests 0 none",
    "tests None", "tests 0 01", "tests 0 100", "tests 0 1 ", "tests a b", "tests 0 -1",
    "below", "below n", "below n x", "below n 0 x", "below n 0 ", "below  n 0", "below n 00", "below 0", "above n",
    "between n", "stood", "stood n", "stood n 100", "Stood n 0", "order n 0 against 1", "order n 0 1", "order",
    "together", "together n", "together 0 ", "together 00", "together 0 100", "together  0",
    "layout", "layout n", "layout n 2", "layout n 2 1 0", "layout n 2 01", "layout n 2 x", "layout n x 1", "layout n 2 100",
    "layout n 2 -1", "layout n 2 1 ", "layout n  2 1", "below n 0\nabove n 0", "version n 0", "events look", "say patterns",
]


def told_parts(desk):
    """What the desk keeps, found by asking it."""
    return [desk.say(line) for line in ("patterns", "below n 0 1", "below n 1 0", "stood n 0 1", "together 0 1", "together 0 2")]


class TestParts(Case):

    def test_a_whole_plan(self):
        desk = Desk()
        for line in TOLD:
            self.assert_same(desk.say(line), "ok")
        self.assert_same(desk.say("patterns"), "2")
        self.assert_same(desk.say("above n 1 0"), "refused NoPromise")
        self.assert_same(desk.say("above n 0 1"), "holds 2")
        self.assert_same(desk.say("below n 0 1"), "breaks version n 0.1 / version n 1.0 / events look write look")
        self.assert_same(desk.say("stood n 0 1"), "breaks version n 0.0 / version n 1.1 / events look write look")
        self.assert_same(desk.say("together 0 1"), "breaks version n 0.0 / version n 1.1 / events look write look")

    def test_a_new_desk_is_empty(self):
        for line in ("looks 0", "tests 0 1", "tests none", "patterns", "below n 0", "above n 0", "between n 0", "stood n 0",
                     "together 0 1", "together 0"):
            self.assert_same(Desk().say(line), "refused NoPlan")
        self.assert_same(Desk().say("cells n 0"), "refused NoScheme")

    def test_what_needs_a_part_that_is_not_told_yet(self):
        rest = ["patterns", "below n 0 1", "above n 0 1", "between n 0 1", "stood n 0 1", "together 0 1"]
        desk = Desk()
        desk.say(TOLD[0])
        self.assert_same(desk.say_all("looks 0", "tests none", "tests 0 1", *rest), ["refused NoPlan"] * 9)
        desk.say(TOLD[1])
        self.assert_same(desk.say_all("tests none", "tests 0 1", *rest), ["refused NoPlan"] * 8)
        desk.say(TOLD[2])
        self.assertNotIn("refused NoPlan", desk.say_all("tests none", *rest))

    def test_a_part_that_is_told_again_forgets_the_parts_behind_it(self):
        for at in range(4):
            desk = Desk()
            desk.say_all(*TOLD)
            self.assert_same(desk.say(TOLD[at]), "ok")
            wanted = {0: "refused NoScheme refused NoPlan", 1: "refused NoPlan"}.get(at)
            if at == 0:
                self.assert_same(desk.say("looks 1 0"), "refused NoPlan")
                self.assert_same(desk.say("patterns"), "refused NoPlan")
                self.assert_same(desk.say(TOLD[1]), "ok")
            if at < 2:
                self.assertIsNotNone(wanted)
                self.assert_same(desk.say("patterns"), "refused NoPlan")
                self.assert_same(desk.say("tests none"), "refused NoPlan")
                self.assert_same(desk.say(TOLD[2]), "ok")
            self.assert_same(desk.say("patterns"), "2")

    def test_looks_tell_that_there_are_no_tests(self):
        desk = Desk()
        desk.say_all("numbers m 1 strict", "cells m 0", "looks 0 0", "tests 0 1")
        self.assert_same(desk.say("together 0 1"), "holds 2")
        desk.say("looks 0 0")
        self.assert_same(desk.say("together 0 1"), "breaks version m 0 / version m 1 / events look write look")
        desk.say("tests 0 1")
        self.assert_same(desk.say("together 0 1"), "holds 2")
        desk.say("tests none")
        self.assertEqual(desk.say("together 0 1")[:6], "breaks")

    def test_a_part_is_checked_when_it_is_told(self):
        desk = Desk()
        for line in ["numbers n 5 strict", "numbers n 0 strict", "numbers N 1 strict", "numbers n 1 loose", "numbers  1 weak",
                     "numbers n 1 ", "numbers n 1 weak n 1 weak", "numbers a 1 weak b 1 weak c 1 weak d 1 weak",
                     "numbers n\nm 1 weak", "numbers abcdefghijklm 1 weak", "numbers 2 2 2"]:
            self.assert_same(desk.say(line), "refused NoScheme")
        self.assert_same(desk.say("cells n 0"), "refused NoScheme")
        desk.say("numbers n 2 strict")
        for line in ["cells n 0", "cells n 0 n 2", "cells m 0 n 1", "cells n 0 n 1  0", "cells" + " n 0" * 8 + " n 1",
                     "cells \n 0", "cells 1 1"]:
            self.assert_same(desk.say(line), "refused NoScheme")
        desk.say("cells n 1 n 0")
        for line in ["looks 2", "looks 0 1 2", "looks 0 1 0 1 0 1 0 1 0", "looks 99"]:
            self.assert_same(desk.say(line), "refused NoPlan")
        self.assert_same(desk.say("patterns"), "refused NoPlan")
        desk.say("looks 1 0 1")
        for line in ["tests 0 1", "tests 2 0", "tests 0 2 0 2", "tests 0 3", "tests 0 0"]:
            self.assert_same(desk.say(line), "refused NoPlan")
        self.assert_same(desk.say("tests 0 2"), "ok")
        for line in ["below n 1 0", "below m 0", "below n 0", "below n 0 1 2", "below  0 1", "stood n 3 1", "together 1",
                     "together 1 0", "together 0 0", "together 0 3", "between x\ny 0 1"]:
            self.assert_same(desk.say(line), "refused NoPromise")
        self.assertNotIn("refused", desk.say("below n 0 1"))

    def test_a_refused_line_changes_nothing(self):
        refused = ["numbers n 5 strict", "numbers x 1 weak y 1 odd", "cells n 0", "cells m 0", "looks 9", "tests 1 0", "tests 0 1",
                   "layout n 5 0", "layout N 2 0", "layout n 2 2", "layout  2 0", "below x 0 1", "together 1 0"]
        desk = Desk()
        desk.say_all(*TOLD[:2], "looks 1 0 1", "tests 0 2")
        before = told_parts(desk)
        for line in refused:
            self.assertTrue(desk.say(line).startswith("refused No"), line)
            self.assert_same(told_parts(desk), before)
        # Also where a part is lacking: what was told ahead stays.
        desk = Desk()
        desk.say(TOLD[0])
        for line in refused + ["cells n 0 n 9", "looks 0"]:
            self.assertTrue(desk.say(line).startswith("refused No"), line)
        self.assert_same(desk.say_all(*TOLD[1:], "patterns"), ["ok", "ok", "ok", "2"])

    def test_free_numbers(self):
        desk = Desk()
        desk.say_all("numbers n 1 free", "cells n 0 n 0", "looks 1 0")
        self.assert_same(desk.say_all("below n 0", "above n 0", "between n 0", "stood n 0"),
                         ["refused NoPromise"] * 3 + ["holds 2"])

    def test_layouts(self):
        for places in range(1, 5):
            for single in range(places):
                scheme, plan = Plan.layout("num", places, single)
                desk = Desk()
                self.assert_same(desk.say(f"layout num {places} {single}"), "ok")
                self.assert_same(desk.say("patterns"), str(sum(how_many(plan))))
                reading = " ".join(str([look for look in range(len(plan)) if plan.place_at(look) == ("num", place)][0])
                                   for place in range(places))
                self.assertEqual(desk.say("stood num " + reading)[:6], "holds ")
                # All parts are told: also the numbers and the cells.
                self.assert_same(desk.say("looks 0"), "ok")
                self.assert_same(desk.say("patterns"), "1")
                self.assert_same(desk.say(show_plan(plan).split("\n")[1]), "ok")
        desk = Desk()
        for line in ["layout n 0 0", "layout n 5 1", "layout N 2 0", "layout  2 0", "layout n\nm 2 0", "layout n 99 99"]:
            self.assert_same(desk.say(line), "refused NoScheme")
        for line in ["layout n 2 2", "layout n 1 1", "layout n 4 99"]:
            self.assert_same(desk.say(line), "refused NoPlace")
        self.assert_same(desk.say("patterns"), "refused NoPlan")

    def test_layouts_replace_all_parts(self):
        desk = Desk()
        desk.say_all(*TOLD)
        desk.say("layout m 1 0")
        self.assert_same(desk.say_all("patterns", "below m 0", "below n 0 1"), ["1", "holds 1", "refused NoPromise"])
        self.assert_same(desk.say_all("cells m 0 m 0", "looks 0 1", "patterns"), ["ok", "ok", "3"])


class TestVerdicts(Case):

    def test_as_the_judge_tells_them(self):
        told = set()
        for plan in small_plans()[::2] + middle_plans()[::2]:
            desk = Desk()
            self.assert_same(desk.say_all(*show_plan(plan).split("\n")), ["ok"] * 4)
            self.assert_same(desk.say("patterns"), str(sum(how_many(plan))))
            for promise in promises_of(plan):
                if promise[0] != "order":
                    line = desk.say(show_promise(promise))
                    verdict = judge(plan, promise)
                    told.add((promise[0], bool(verdict)))
                    if bool(verdict):
                        self.assert_same(line, f"holds {len(verdict.rows)}")
                    else:
                        self.assert_same(line, "breaks " + show_run(verdict.run).replace("\n", " / "))
                        self.assertEqual(read_run(line[len("breaks "):].replace(" / ", "\n")), verdict.run)
        self.assertEqual(told, set(itertools.product(("below", "above", "between", "stood", "together"), (True, False))))

    def test_order_is_no_line(self):
        desk = Desk()
        desk.say_all(*TOLD)
        self.assertTrue(plan_of(2, "strict", [1, 0], [1, 0]).is_promise(read_promise("order n 0 1 against 0 1")))
        self.assert_raises(NoLine, [], desk.say, "order n 0 1 against 0 1")

    def test_names_that_are_words(self):
        desk = Desk()
        lines = ["numbers tests 1 weak none 1 strict", "cells none 0 tests 0 none 0", "looks 2 1 0", "tests 0 2",
                 "patterns", "below none 0", "stood tests 1", "together 0 1 2", "together 0 2"]
        told = desk.say_all(*lines)
        plan = Plan(Scheme([("tests", 1, "weak"), ("none", 1, "strict")], [("none", 0), ("tests", 0), ("none", 0)]),
                    [2, 1, 0], [(0, 2)])
        self.assert_same(told[:5], ["ok"] * 4 + [str(sum(how_many(plan)))])
        for line, promise in zip(told[5:], [("below", ("none", (0,))), ("stood", ("tests", (1,))), ("together", (0, 1, 2)),
                                            ("together", (0, 2))]):
            self.assertIs(line.startswith("holds"), bool(judge(plan, promise)))

    def test_a_new_desk_that_is_told_the_parts_that_stand(self):
        asked = ["patterns", "below n 0 1", "above n 0 1", "stood n 0 1", "between n 2 1", "together 0 1", "together 1 2"]
        lines = ["numbers n 2 weak", "cells n 0 n 1", "looks 0 1", "numbers n 2 strict", "cells n 1 n 0", "looks 0 1",
                 "looks 1 0 1", "tests 0 2", "tests 0 1", "cells n 0", "looks 7"]
        desk = Desk()
        desk.say_all(*lines)
        other = Desk()
        other.say_all("numbers n 2 strict", "cells n 1 n 0", "looks 1 0 1", "tests 0 2")
        self.assert_same(desk.say_all(*asked), other.say_all(*asked))
        self.assert_same(desk.say_all(*asked), desk.say_all(*asked))

    def test_the_greatest_plan(self):
        desk = Desk()
        lines = ["numbers n 4 strict", "cells n 3 n 2 n 1 n 0 n 0 n 1 n 2 n 3", "looks 7 6 5 4 3 2 1 0", "tests 0 7 1 6 2 5 3 4"]
        self.assert_same(desk.say_all(*lines, "patterns", "below n 3 2 1 0"), ["ok"] * 4 + ["128", "holds 128"])

    def test_two_desks(self):
        one, other = Desk(), Desk()
        one.say_all(*TOLD)
        self.assert_same(other.say("patterns"), "refused NoPlan")
        other.say("layout n 1 0")
        self.assert_same([one.say("patterns"), other.say("patterns")], ["2", "1"])


class TestLines(Case):

    def test_what_is_no_line(self):
        desk = Desk()
        desk.say_all(*TOLD)
        before = told_parts(desk)
        for line in NO_LINES:
            self.assert_raises(NoLine, [], desk.say, line)
            self.assert_raises(NoLine, [], desk.say_all, line)
            # Ahead of all else: also where no part is told.
            self.assert_raises(NoLine, [], Desk().say, line)
        for thing in anything() + [["patterns"], ("patterns",), {"patterns": 0}]:
            self.assert_raises(NoLine, [], desk.say, thing)
            self.assert_raises(NoLine, [], desk.say_all, thing)
        self.assert_same(told_parts(desk), before)

    def test_an_empty_word_is_any_word(self):
        desk = Desk()
        for line, told in [("numbers  2 strict", "refused NoScheme"), ("numbers n 2 ", "refused NoScheme"),
                           ("cells  0", "refused NoScheme"), ("below  0", "refused NoPlan"), ("stood  0 1", "refused NoPlan"),
                           ("layout  2 0", "refused NoScheme")]:
            self.assert_same(desk.say(line), told)

    def test_a_newline_is_a_sign_like_any_other(self):
        desk = Desk()
        for line, told in [("numbers \n 2 strict", "refused NoScheme"), ("numbers n 2 strict\n", "refused NoScheme"),
                           ("cells \nn 0", "refused NoScheme"), ("below n\nx 0", "refused NoPlan"),
                           ("layout n\n 2 0", "refused NoScheme")]:
            self.assert_same(desk.say(line), told)
        self.assert_same(desk.say("numbers n 2 strict"), "ok")

    def test_many_words(self):
        desk = Desk()
        desk.say_all(*TOLD[:2])
        self.assert_same(desk.say("looks" + " 0" * 200), "refused NoPlan")
        self.assert_same(desk.say("numbers" + " n 1 weak" * 100), "refused NoScheme")
        self.assert_raises(NoLine, [], desk.say, "numbers" + " n 1 weak" * 100 + " n")
        self.assert_same(desk.say("looks 1 0"), "ok")


class TestSayAll(Case):

    def test_a_list_of_what_the_lines_tell(self):
        desk = Desk()
        self.assert_same(desk.say_all(*TOLD, "patterns", "looks 9", "above n 0 1"),
                         ["ok", "ok", "ok", "ok", "2", "refused NoPlan", "holds 2"])
        self.assert_same(desk.say_all(), [])

    def test_it_stops_at_the_first_that_is_no_line(self):
        desk = Desk()
        self.assert_raises(NoLine, [], desk.say_all, *TOLD[:3], "nonsense", "numbers m 1 weak")
        self.assert_same(desk.say("patterns"), "2")
        self.assert_same(desk.say("above n 0 1"), "holds 2")
        self.assert_raises(NoLine, [], desk.say_all, "looks 1", None, "looks 1 0")
        self.assert_same(desk.say("patterns"), "1")
        # A refused line does not stop it.
        self.assert_same(desk.say_all("looks 9", "looks 1 0", "patterns"), ["refused NoPlan", "ok", "2"])

    def test_in_any_order(self):
        lines = TOLD[:3] + ["tests 0 1", "looks 1 0 1", "tests 0 2", "cells n 0 n 1 n 1", "cells n 0", "layout n 2 0",
                            "patterns", "above n 0 1"]
        for order in itertools.permutations(lines, 4):
            self.assert_told(order)
        for order in itertools.permutations(lines[::2] + lines[3:4]):
            self.assert_told(order)

    def assert_told(self, lines):
        """Assert that the desk tells what the tests' own rule tells, by say and by say_all."""
        desk, other = Desk(), Desk()
        wanted = told_by_parts(lines)
        self.assert_same(desk.say_all(*lines), wanted)
        self.assert_same([other.say(line) for line in lines], wanted)


def told_by_parts(lines):
    """What right lines tell, found by keeping the parts and making the plan anew for each line."""
    parts = {}
    found = []
    for line in lines:
        word, *words = line.split(" ")
        kept = dict(parts)
        try:
            found.append(told_by(word, words, kept))
            parts = kept
        except NoScheme:
            found.append("refused NoScheme")
        except NoPlan:
            found.append("refused NoPlan")
        except NoPromise:
            found.append("refused NoPromise")
    return found


def told_by(word, words, parts):
    """What one line tells; it puts the parts that it tells into parts."""
    order = ["numbers", "cells", "looks", "tests"]
    if word == "layout":
        scheme, plan = Plan.layout(words[0], int(words[1]), int(words[2]))
        parts.update(numbers=list(scheme.numbers), cells=list(scheme.cells), looks=list(plan.looks), tests=list(plan.tests))
        return "ok"
    needed = order.index(word) if word in order else 3
    if any(part not in parts for part in order[:needed]):
        raise NoScheme("", None) if word == "cells" else NoPlan("", None)
    if word in order:
        for part in order[needed:]:
            parts.pop(part, None)
        values = [int(item) if item.isdigit() else item for item in words]
        size = {"numbers": 3, "cells": 2, "looks": 1, "tests": 2}[word]
        groups = [tuple(values[at:at + size]) for at in range(0, len(values), size)]
        parts[word] = values if word == "looks" else [] if words == ["none"] else groups
    plan = Plan(Scheme(parts["numbers"], parts["cells"]), parts["looks"], parts.get("tests", [])) if "looks" in parts else None
    if word in order:
        if "cells" in parts:
            Scheme(parts["numbers"], parts["cells"])
        return "ok"
    if word == "patterns":
        return str(sum(how_many(plan)))
    verdict = judge(plan, (word, (words[0], tuple(int(look) for look in words[1:]))))
    return f"holds {len(verdict.rows)}" if bool(verdict) else "breaks " + show_run(verdict.run).replace("\n", " / ")


if __name__ == "__main__":
    unittest.main()
