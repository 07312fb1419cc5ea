"""Schemes [9]."""

import unittest

from risingread.errors import NoName, NoScheme
from risingread.schemes import Scheme
from tests.helper import Case, anything

NUMBERS = [("n", 2, "strict"), ("mark", 1, "free"), ("d", 1, "weak")]
CELLS = [("n", 1), ("mark", 0), ("n", 0), ("d", 0), ("n", 1), ("mark", 0)]
NO_NUMBERS = [
    ("n",), ("n", 1), ("n", 1, "strict", 0), (), ["n", 1, "strict"], None, "n", 3, True, {},
    ("", 1, "free"), ("abcdefghijklm", 1, "free"), ("N", 1, "free"), ("n1", 1, "free"), ("a b", 1, "free"),
    ("\u00e4", 1, "free"), ("a\n", 1, "free"), ("a_b", 1, "free"), (1, 1, "free"), (None, 1, "free"),
    (True, 1, "free"), (["n"], 1, "free"), (("n",), 1, "free"), ({}, 1, "free"),
    ("n", 0, "free"), ("n", 5, "free"), ("n", -1, "free"), ("n", 10 ** 40, "free"), ("n", True, "free"),
    ("n", "1", "free"), ("n", None, "free"), ("n", [1], "free"), ("n", (), "free"), ("n", {}, "free"),
    ("n", 1, "rising"), ("n", 1, ""), ("n", 1, "Strict"), ("n", 1, "strict "), ("n", 1, None), ("n", 1, 0),
    ("n", 1, True), ("n", 1, ["free"]), ("n", 1, ("free",)), ("n", 1, {}),
]
NO_CELLS = [
    ("n",), ("n", 0, 0), (), ["n", 0], None, "n", "n0", 0, True, {}, ("x", 0), ("", 0), (None, 0), (0, 0),
    (0, "n"), (["n"], 0), ({}, 0), (("n", 0), 0), ("n", 2), ("n", -1), ("n", 10 ** 40), ("n", True),
    ("n", False), ("n", None), ("n", "0"), ("n", [0]), ("n", (0,)), ("n", {}), ("mark", 1), ("N", 0),
]


class TestMaking(Case):

    def test_attributes(self):
        scheme = Scheme(NUMBERS, CELLS)
        self.assert_same(scheme.numbers, tuple(NUMBERS))
        self.assert_same(scheme.cells, tuple(CELLS))

    def test_class_values(self):
        self.assert_same((Scheme.CELLS, Scheme.NUMBERS), (8, 3))

    def test_least_and_greatest_schemes(self):
        for kind in ("strict", "weak", "free"):
            scheme = Scheme([("a", 1, kind)], [("a", 0)])
            self.assert_same((scheme.numbers, scheme.cells), ((("a", 1, kind),), (("a", 0),)))
        cells = [("abcdefghijkl", place) for place in (3, 2, 1, 0, 0, 1, 2, 3)]
        self.assert_same(Scheme([("abcdefghijkl", 4, "weak")], cells).cells, tuple(cells))
        self.assert_same(len(Scheme([("z", 1, "free")], [("z", 0)] * 8)), 8)

    def test_no_list_of_numbers(self):
        for numbers in ([], (), tuple(NUMBERS), None, True, 0, "", "numbers", {}, {0: ("n", 1, "free")}):
            for cells in (CELLS, [], None):
                self.assert_raises(NoScheme, ["numbers", None], Scheme, numbers, cells)
        for thing in anything():
            if not isinstance(thing, list) or thing == []:
                self.assert_raises(NoScheme, ["numbers", None], Scheme, thing, CELLS)

    def test_the_first_number_that_is_wrong(self):
        right = [("a", 1, "free"), ("b", 2, "weak"), ("c", 4, "strict")]
        for wrong in NO_NUMBERS + anything():
            for at in range(3):
                numbers = list(right)
                numbers[at] = wrong
                self.assert_raises(NoScheme, ["numbers", at], Scheme, numbers, None)
                self.assert_raises(NoScheme, ["numbers", at], Scheme, numbers[:at + 1], [("a", 0)])
                self.assert_raises(NoScheme, ["numbers", at], Scheme, numbers[:at + 1] + [wrong], [])

    def test_a_name_twice(self):
        numbers = [("a", 1, "free"), ("b", 1, "free"), ("a", 2, "weak")]
        self.assert_raises(NoScheme, ["numbers", 2], Scheme, numbers, [("a", 0), ("b", 0)])
        numbers = [("a", 1, "free"), ("a", 1, "free"), ("b", 0, "weak")]
        self.assert_raises(NoScheme, ["numbers", 1], Scheme, numbers, [("a", 0)])

    def test_a_number_beyond_the_bound(self):
        right = [(name, 1, "free") for name in "abcde"]
        cells = [(name, 0) for name in "abcde"]
        self.assert_same(Scheme(right[:3], cells[:3]).numbers, tuple(right[:3]))
        self.assert_raises(NoScheme, ["numbers", 3], Scheme, right[:4], cells[:4])
        self.assert_raises(NoScheme, ["numbers", 3], Scheme, right, cells)
        self.assert_raises(NoScheme, ["numbers", 1], Scheme, [right[0], None] + right[2:], cells)

    def test_no_list_of_cells(self):
        for cells in ([], (), tuple(CELLS), None, True, 0, "", "cells", {}, {0: ("n", 0)}):
            self.assert_raises(NoScheme, ["cells", None], Scheme, NUMBERS, cells)
        for thing in anything():
            if not isinstance(thing, list) or thing == []:
                self.assert_raises(NoScheme, ["cells", None], Scheme, NUMBERS, thing)

    def test_the_first_cell_that_is_wrong(self):
        for wrong in NO_CELLS:
            for at in range(len(CELLS)):
                cells = list(CELLS)
                cells[at] = wrong
                self.assert_raises(NoScheme, ["cells", at], Scheme, NUMBERS, cells)
                self.assert_raises(NoScheme, ["cells", at], Scheme, NUMBERS, cells[:at + 1] + [wrong])
            self.assert_raises(NoScheme, ["cells", 6], Scheme, NUMBERS, CELLS + [wrong])
        for wrong in anything():
            if wrong != ("n", 0) or repr(wrong) == "('n', False)":
                self.assert_raises(NoScheme, ["cells", 1], Scheme, NUMBERS, [CELLS[0], wrong] + CELLS[2:])

    def test_a_cell_beyond_the_bound(self):
        self.assert_same(len(Scheme(NUMBERS, CELLS + [("n", 0)] * 2)), 8)
        self.assert_raises(NoScheme, ["cells", 8], Scheme, NUMBERS, CELLS + [("n", 0)] * 3)
        self.assert_raises(NoScheme, ["cells", 8], Scheme, NUMBERS, CELLS + [("n", 0)] * 9)
        self.assert_raises(NoScheme, ["cells", 8], Scheme, NUMBERS, [("n", 0)] * 9)
        self.assert_raises(NoScheme, ["cells", 7], Scheme, NUMBERS, CELLS + [("n", 0), None, ("n", 0)])

    def test_a_place_without_a_cell(self):
        self.assert_raises(NoScheme, ["cells", None], Scheme, [("n", 2, "strict")], [("n", 0)])
        for missing in sorted(set(CELLS)):
            cells = [cell for cell in CELLS if cell != missing]
            self.assert_raises(NoScheme, ["cells", None], Scheme, NUMBERS, cells)
            self.assert_raises(NoScheme, ["cells", 1], Scheme, NUMBERS, [cells[0], ("n", 2)] + cells[1:])

    def test_numbers_come_ahead_of_cells(self):
        self.assert_raises(NoScheme, ["numbers", 1], Scheme, [("n", 1, "free"), None], [None])
        self.assert_raises(NoScheme, ["numbers", None], Scheme, None, None)
        self.assert_raises(NoScheme, ["cells", 0], Scheme, NUMBERS, [None])

    def test_what_was_passed_stays_and_may_be_changed_afterwards(self):
        numbers, cells = list(NUMBERS), list(CELLS)
        scheme = Scheme(numbers, cells)
        self.assert_same((numbers, cells), (NUMBERS, CELLS))
        numbers.pop()
        cells[0] = ("d", 0)
        self.assert_same((scheme.numbers, scheme.cells), (tuple(NUMBERS), tuple(CELLS)))
        self.assertEqual(scheme, Scheme(NUMBERS, CELLS))


class TestAsking(Case):

    def setUp(self):
        self.scheme = Scheme(NUMBERS, CELLS)

    def test_kinds_and_places(self):
        for name, places, kind in NUMBERS:
            self.assert_same(self.scheme.kind_of(name), kind)
            self.assert_same(self.scheme.places_of(name), places)

    def test_no_numbers_name(self):
        names = [thing for thing in anything() if thing != "n"] + ["x", "N", "nn", ["n"], ("n",), "marks", ("n", 2)]
        for name in names:
            self.assert_raises(NoName, [name], self.scheme.kind_of, name)
            self.assert_raises(NoName, [name], self.scheme.places_of, name)
            self.assert_same(self.scheme.cells_of(name, 0), [])

    def test_cells_of_a_place(self):
        self.assert_same(self.scheme.cells_of("n", 0), [2])
        self.assert_same(self.scheme.cells_of("n", 1), [0, 4])
        self.assert_same(self.scheme.cells_of("mark", 0), [1, 5])
        self.assert_same(self.scheme.cells_of("d", 0), [3])
        for place in (2, -1, 10 ** 40, True, False, None, "", "0", [], [0], (0,), {}):
            self.assert_same(self.scheme.cells_of("n", place), [])
        for place in anything():
            self.assert_same(self.scheme.cells_of("n", place), {"0": [2], "1": [0, 4]}.get(repr(place), []))
            self.assert_same(self.scheme.cells_of("mark", place), {"0": [1, 5]}.get(repr(place), []))

    def test_a_new_list_each_time(self):
        self.assert_stays(self.scheme.cells_of, "n", 1)

    def test_length(self):
        self.assert_same(len(self.scheme), 6)
        self.assert_same(len(Scheme([("a", 1, "free")], [("a", 0)])), 1)

    def test_what_is_in_it(self):
        for cell in CELLS:
            self.assertIs(cell in self.scheme, True)
        for thing in NO_CELLS + NUMBERS + [self.scheme, tuple(CELLS), CELLS]:
            self.assertIs(thing in self.scheme, False, thing)
        for thing in anything():
            self.assertIs(thing in self.scheme, repr(thing) == "('n', 0)", thing)


class TestRenamed(Case):

    def setUp(self):
        self.scheme = Scheme(NUMBERS, CELLS)

    def test_new_names(self):
        names = {"d": "e", "n": "number", "mark": "m"}
        renamed = self.scheme.renamed(names)
        self.assert_same(renamed.numbers, (("number", 2, "strict"), ("m", 1, "free"), ("e", 1, "weak")))
        self.assert_same(renamed.cells, (("number", 1), ("m", 0), ("number", 0), ("e", 0), ("number", 1), ("m", 0)))
        self.assert_same(names, {"d": "e", "n": "number", "mark": "m"})
        self.assert_same((self.scheme.numbers, self.scheme.cells), (tuple(NUMBERS), tuple(CELLS)))
        self.assertEqual(self.scheme.renamed(names), renamed)
        self.assertIs(renamed.__class__, Scheme)

    def test_names_exchanged(self):
        renamed = self.scheme.renamed({"n": "d", "d": "mark", "mark": "n"})
        self.assert_same(renamed.numbers, (("d", 2, "strict"), ("n", 1, "free"), ("mark", 1, "weak")))
        self.assert_same(renamed.cells, (("d", 1), ("n", 0), ("d", 0), ("mark", 0), ("d", 1), ("n", 0)))
        self.assertEqual(self.scheme.renamed({"n": "n", "d": "d", "mark": "mark"}), self.scheme)

    def test_no_such_dict(self):
        right = {"n": "x", "d": "y", "mark": "z"}
        wrong = [{**right, "more": "w"}, {**right, 0: "w"}, {**right, None: "w"}, {"n": "x", "d": "y"},
                 {"n": "x", "d": "y", "marks": "z"}, {"n": "x", "d": "y", 0: "z"}, list(right), tuple(right.items())]
        for name in ("y", "", "abcdefghijklm", "Z", "z1", None, 0, True, ["z"], ("z",), {}, {"z": "z"}):
            wrong.append({**right, "mark": name})
        for names in wrong + anything():
            self.assert_raises(NoScheme, ["numbers", None], self.scheme.renamed, names)

    def test_a_name_of_twelve_letters(self):
        renamed = Scheme([("a", 1, "free")], [("a", 0)]).renamed({"a": "abcdefghijkl"})
        self.assert_same(renamed.numbers, (("abcdefghijkl", 1, "free"),))


class TestEqual(Case):

    def test_equal_numbers_and_cells(self):
        scheme = Scheme(NUMBERS, CELLS)
        self.assertIs(scheme == Scheme(list(NUMBERS), list(CELLS)), True)
        self.assertIs(scheme != Scheme(list(NUMBERS), list(CELLS)), False)
        others = [
            Scheme(NUMBERS, CELLS[::-1]), Scheme(NUMBERS[::-1], CELLS), Scheme(NUMBERS, CELLS + [("d", 0)]),
            Scheme([("n", 2, "weak")] + NUMBERS[1:], CELLS), scheme.renamed({"n": "d", "d": "n", "mark": "mark"}),
        ]
        for other in others:
            self.assertIs(scheme == other, False)
            self.assertIs(scheme != other, True)

    def test_nothing_else_is_equal(self):
        scheme = Scheme(NUMBERS, CELLS)
        for thing in anything() + [(NUMBERS, CELLS), (scheme.numbers, scheme.cells), scheme.cells]:
            self.assertIs(scheme == thing, False)
            self.assertIs(thing == scheme, False)


if __name__ == "__main__":
    unittest.main()
