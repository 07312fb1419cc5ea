"""Numerals: how they are made, compared and looked into [4], [5], and their items [6]."""

import itertools
import operator
import unittest

from risingread.errors import NoNumeral, NoPlace, Overflow, Unlike
from risingread.numerals import Numeral
from tests.helper import Case, anything
from tests.test_bases import RIGHT, WRONG


def all_of(bases):
    """All numerals with these bases, ascending, made from their digits."""
    return [Numeral(digits, bases) for digits in itertools.product(*[range(base) for base in bases])]


class TestMaking(Case):

    def test_attributes(self):
        n = Numeral([1, 0, 9], [2, 10, 10])
        self.assert_same((n.digits, n.bases, n.value), ((1, 0, 9), (2, 10, 10), 109))
        n = Numeral((99, 99, 99, 99), (100, 100, 100, 100))
        self.assert_same((n.digits, n.bases, n.value), ((99,) * 4, (100,) * 4, 10 ** 8 - 1))
        self.assert_same(Numeral((1,), (2,)).value, 1)

    def test_class_values(self):
        self.assert_same((Numeral.LIMIT, Numeral.PLACES), (100, 4))

    def test_values_go_from_0_to_one_less_than_there_are(self):
        for bases in ((2,), (3, 2), (2, 3, 4), (2, 3, 2, 3)):
            values = [n.value for n in all_of(bases)]
            self.assert_same(values, list(range(len(values))))

    def test_wrong_bases_come_first(self):
        for bases in WRONG:
            for digits in ((0,), (1, 0), [5, True], None, "12", {}):
                self.assert_raises(NoNumeral, [None], Numeral, digits, bases)
                self.assertIs(Numeral.is_numeral(digits, bases), False)

    def test_then_digits_as_a_whole(self):
        for digits in ((), [], (0,), [0], (9, 9, 9), [True], None, 0, True, "", "00", {}, {0: 0, 1: 0}):
            self.assert_raises(NoNumeral, [None], Numeral, digits, (2, 10))
            self.assertIs(Numeral.is_numeral(digits, (2, 10)), False)

    def test_then_the_first_place_that_is_wrong(self):
        for wrong in (10, 11, -1, 10 ** 40, True, False, None, "", "1", (), [0], {}):
            for place in range(3):
                digits = [9, 9, 9]
                digits[place] = wrong
                self.assert_raises(NoNumeral, [place], Numeral, digits, (10, 10, 10))
                self.assertIs(Numeral.is_numeral(tuple(digits), [10, 10, 10]), False)
        self.assert_raises(NoNumeral, [0], Numeral, (2, 10), (2, 10))
        self.assert_raises(NoNumeral, [1], Numeral, (1, 10), (2, 10))
        self.assert_raises(NoNumeral, [1], Numeral, (1, 2, 3), (2, 2, 3))

    def test_is_numeral(self):
        for bases in RIGHT:
            least = [0] * len(bases)
            greatest = tuple(base - 1 for base in bases)
            for digits in (least, greatest):
                self.assertIs(Numeral.is_numeral(digits, bases), True)
                self.assert_same(Numeral(digits, bases).digits, tuple(digits))
        self.assertIs(Numeral((0,), (2,)).is_numeral([1], [2]), True)

    def test_is_numeral_of_anything(self):
        for thing in anything():
            self.assertIs(Numeral.is_numeral(thing, (5,)), thing in ([2], (2,)), thing)
            self.assertIs(Numeral.is_numeral((1,), thing), thing in ([2], (2,)), thing)
            self.assertIs(Numeral.is_numeral((thing,), (9,)), exactly_0_1_or_7(thing), thing)

    def test_what_was_passed_may_be_changed_afterwards(self):
        digits, bases = [1, 2], [3, 4]
        n = Numeral(digits, bases)
        m = Numeral.of(6, bases)
        digits[0] = 2
        bases.append(5)
        self.assert_same((n.digits, n.bases, n.value), ((1, 2), (3, 4), 6))
        self.assert_same((m.digits, m.bases, m.value), ((1, 2), (3, 4), 6))

    def test_arguments_stay(self):
        self.assert_stays(Numeral.is_numeral, [1, 2], [3, 4])
        digits, bases = [1, 2], [3, 4]
        self.assertEqual(Numeral(digits, bases), Numeral(digits, bases))
        self.assertEqual((digits, bases), ([1, 2], [3, 4]))


def exactly_0_1_or_7(thing):
    """Whether it is the number 0, 1 or 7, and no bool."""
    return repr(thing) in ("0", "1", "7")


class TestOf(Case):

    def test_each_value(self):
        for bases in ((2,), (3, 2), (2, 3, 4), [2, 3, 2, 3]):
            for value, n in enumerate(all_of(bases)):
                m = Numeral.of(value, bases)
                self.assert_same((m.digits, m.bases, m.value), (n.digits, tuple(bases), value))

    def test_no_bases_come_first(self):
        for bases in WRONG:
            for value in (0, 3, -1, 10 ** 40):
                self.assert_raises(NoNumeral, [None], Numeral.of, value, bases)

    def test_too_small_or_too_great(self):
        for value in (-1, 200, 201, 10 ** 40, -10 ** 40):
            self.assert_raises(Overflow, [value], Numeral.of, value, (2, 10, 10))
        self.assert_same(Numeral.of(0, (2, 10, 10)).digits, (0, 0, 0))
        self.assert_same(Numeral.of(199, (2, 10, 10)).digits, (1, 9, 9))

    def test_arguments_stay(self):
        bases = [2, 10]
        self.assertEqual(Numeral.of(11, bases), Numeral.of(11, bases))
        self.assertEqual(bases, [2, 10])


class TestComparing(Case):

    def test_equal_bases_and_digits(self):
        n = Numeral((1, 2), (3, 4))
        self.assertIs(n == Numeral([1, 2], [3, 4]), True)
        self.assertIs(n != Numeral([1, 2], [3, 4]), False)
        for other in (Numeral((1, 1), (3, 4)), Numeral((1, 2), (4, 4)), Numeral((1, 2), (3, 5)),
                      Numeral((0, 1, 2), (2, 3, 4)), Numeral((6,), (7,)), Numeral((0, 6), (2, 7))):
            self.assertIs(n == other, False)
            self.assertIs(n != other, True)

    def test_nothing_else_is_equal(self):
        n = Numeral((1,), (2,))
        for thing in anything() + [(1,), [1], 1, "1/2", str(n), n.digits, ((1,), (2,))]:
            self.assertIs(n == thing, False)
            self.assertIs(thing == n, False)
            self.assertIs(n != thing, True)

    def test_order_with_equal_bases_is_that_of_the_values(self):
        for bases in ((5,), (3, 2), (2, 3, 2)):
            for n, m in itertools.product(all_of(bases), repeat=2):
                self.assert_order(n, m, n.value, m.value)
                self.assertEqual(n < m, n.digits < m.digits)

    def test_order_with_unlike_bases_is_that_of_the_bases(self):
        some = [n for bases in ((2,), (3,), (2, 2), (2, 3), (3, 2), (2, 2, 2)) for n in all_of(bases)]
        for n, m in itertools.product(some, repeat=2):
            self.assert_order(n, m, (n.bases, n.value), (m.bases, m.value))
        self.assertIs(Numeral((9, 9), (10, 10)) < Numeral((0, 0), (10, 11)), True)
        self.assertIs(Numeral((9, 9), (10, 10)) > Numeral((0,), (11,)), False)
        self.assertIs(Numeral((1,), (2,)) >= Numeral((0, 0), (2, 2)), False)

    def assert_order(self, n, m, one, other):
        """Assert that the numerals are ordered as the keys are."""
        for sign in (operator.lt, operator.le, operator.gt, operator.ge, operator.eq, operator.ne):
            self.assertIs(sign(n, m), sign(one, other), (n.digits, m.digits, sign))

    def test_each_order_is_defined_in_the_class(self):
        for name in ("__lt__", "__le__", "__gt__", "__ge__", "__eq__"):
            self.assertIn(name, vars(Numeral))

    def test_what_is_no_numeral_has_no_order(self):
        for sign in (operator.lt, operator.le, operator.gt, operator.ge):
            self.assertRaises(TypeError, sign, Numeral((1,), (2,)), 1)


class TestItems(Case):

    def setUp(self):
        self.n = Numeral((1, 0, 9), (2, 10, 10))

    def test_digits_by_place(self):
        self.assert_same([self.n[0], self.n[1], self.n[2]], [1, 0, 9])

    def test_what_is_no_place(self):
        for place in (-1, -3, 3, 4, 10 ** 40, True, False, None, "", "0", [], [0], (), (0,), {}, {0: 0}):
            self.assert_raises(NoPlace, [place], operator.getitem, self.n, place)
        for place in anything():
            if repr(place) not in ("0", "1"):
                self.assert_raises(NoPlace, [place], operator.getitem, self.n, place)

    def test_length_and_iteration(self):
        for bases in RIGHT:
            n = Numeral([1] * len(bases), bases)
            self.assert_same(len(n), len(bases))
            self.assert_same(list(n), [1] * len(bases))
        self.assert_same(list(self.n), [1, 0, 9])
        self.assert_same([digit for digit in self.n], [1, 0, 9])

    def test_which_digits_are_in_it(self):
        for digit in range(-2, 12):
            self.assertIs(digit in self.n, digit in (0, 1, 9))
        for thing in (True, False, None, "", "1", "0", (1,), [0], {}, 10 ** 40, self.n):
            self.assertIs(thing in self.n, False)
        for thing in anything():
            self.assertIs(thing in self.n, repr(thing) in ("0", "1"))

    def test_truth(self):
        for bases in RIGHT:
            zero = Numeral([0] * len(bases), bases)
            self.assertIs(bool(zero), False)
            for place in range(len(bases)):
                digits = [0] * len(bases)
                digits[place] = 1
                self.assertIs(bool(Numeral(digits, bases)), True)


class TestChanges(Case):

    def test_places_that_differ(self):
        for n, m in itertools.product(all_of((2, 3, 2)), repeat=2):
            differ = [place for place in range(3) if n.digits[place] != m.digits[place]]
            self.assert_same(n.changed(m), differ)
            self.assert_same(n.first_change(m), min(differ, default=None))

    def test_unlike_bases(self):
        n = Numeral((1, 2), (3, 4))
        for other in (Numeral((1, 2), (3, 5)), Numeral((1,), (3,)), Numeral((1, 2, 0), (3, 4, 2))):
            self.assert_raises(Unlike, [], n.changed, other)
            self.assert_raises(Unlike, [], n.first_change, other)

    def test_a_new_list_each_time(self):
        self.assert_stays(lambda: Numeral((1, 2), (3, 4)).changed(Numeral((0, 1), (3, 4))))
        n, m = Numeral((1, 2), (3, 4)), Numeral((0, 1), (3, 4))
        n.changed(m).clear()
        self.assert_same(n.changed(m), [0, 1])


if __name__ == "__main__":
    unittest.main()
