"""Arithmetic with numerals [6]."""

import itertools
import operator
import unittest

from risingread.errors import NoDivisor, Overflow, Unlike
from risingread.numerals import Numeral
from tests.helper import Case, anything
from tests.test_numerals import all_of

SMALL = ((2,), (3, 2), (2, 3, 4), (2, 3, 2, 2))
GREAT = 1234567890123456789012345678901234567890


class ArithmeticCase(Case):

    def assert_value(self, value, bases, call, *passed):
        """Assert that the call makes the numeral of this value, or raises Overflow with it."""
        many = 1
        for base in bases:
            many *= base
        if 0 <= value < many:
            made = call(*passed)
            self.assertIs(made.__class__, Numeral)
            self.assert_same((made.value, made.bases), (value, tuple(bases)))
        else:
            self.assert_raises(Overflow, [value], call, *passed)


class TestSums(ArithmeticCase):

    def test_with_a_number_both_ways_round(self):
        for bases in SMALL:
            for n in all_of(bases):
                for k in list(range(-26, 27)) + [GREAT, -GREAT]:
                    self.assert_value(n.value + k, bases, operator.add, n, k)
                    self.assert_value(k + n.value, bases, operator.add, k, n)
                    self.assert_value(n.value - k, bases, operator.sub, n, k)
                    self.assert_value(k - n.value, bases, operator.sub, k, n)

    def test_with_a_numeral(self):
        for bases in SMALL:
            for n, m in itertools.product(all_of(bases), repeat=2):
                self.assert_value(n.value + m.value, bases, operator.add, n, m)
                self.assert_value(n.value - m.value, bases, operator.sub, n, m)

    def test_just_let_and_just_too_great(self):
        n = Numeral.of(150, (2, 10, 10))
        self.assert_same(str(n + 49), "1.9.9/2.10.10")
        self.assert_raises(Overflow, [200], operator.add, n, 50)
        self.assert_raises(Overflow, [200], operator.add, 50, n)
        self.assert_same(str(n - 150), "0.0.0/2.10.10")
        self.assert_raises(Overflow, [-1], operator.sub, n, 151)
        self.assert_same(str(150 - n), "0.0.0/2.10.10")
        self.assert_raises(Overflow, [-1], operator.sub, 149, n)
        self.assert_raises(Overflow, [200], operator.sub, 350, n)

    def test_unlike_bases_ahead_of_overflow(self):
        n = Numeral((1, 9), (2, 10))
        for other in (Numeral((9, 9), (10, 10)), Numeral((1,), (2,)), Numeral((1, 9), (2, 11))):
            for sign in (operator.add, operator.sub, operator.xor):
                self.assert_raises(Unlike, [], sign, n, other)
                self.assert_raises(Unlike, [], sign, other, n)

    def test_nothing_else_can_be_added(self):
        for thing in (True, None, "1", (1,), [1], {}):
            self.assertRaises(TypeError, operator.add, Numeral((1,), (5,)), thing)
            self.assertRaises(TypeError, operator.sub, thing, Numeral((1,), (5,)))


class TestProducts(ArithmeticCase):

    def test_with_a_number_both_ways_round(self):
        for bases in SMALL:
            for n in all_of(bases):
                for k in list(range(-3, 26)) + [GREAT, -GREAT]:
                    self.assert_value(n.value * k, bases, operator.mul, n, k)
                    self.assert_value(k * n.value, bases, operator.mul, k, n)

    def test_just_let_and_just_too_great(self):
        n = Numeral.of(33, (10, 10))
        self.assert_same(str(n * 3), "9.9/10.10")
        self.assert_raises(Overflow, [132], operator.mul, n, 4)
        self.assert_raises(Overflow, [-33], operator.mul, -1, n)
        self.assert_same(str(GREAT * Numeral.of(0, (10, 10))), "0.0/10.10")

    def test_powers(self):
        for bases in SMALL + ((10, 10, 10, 10), (100, 100, 100, 100)):
            for value in (0, 1, 2, 3):
                if value < Numeral([base - 1 for base in bases], bases).value:
                    n = Numeral.of(value, bases)
                    for k in range(17):
                        self.assert_value(value ** k, bases, operator.pow, n, k)

    def test_powers_of_great_values(self):
        n = Numeral((99, 99, 99, 99), (100, 100, 100, 100))
        for k in range(17):
            self.assert_value((10 ** 8 - 1) ** k, n.bases, operator.pow, n, k)
        self.assert_same((Numeral((9,), (10,)) ** 0).value, 1)
        self.assert_same((Numeral((0,), (2,)) ** 0).value, 1)
        self.assert_same((Numeral.of(10, (100, 100)) ** 3).value, 1000)
        self.assert_raises(Overflow, [10 ** 4], operator.pow, Numeral.of(10, (100, 100)), 4)


class TestDivision(ArithmeticCase):

    def test_by_value(self):
        for bases in SMALL:
            for n in all_of(bases):
                for k in list(range(1, 30)) + [GREAT]:
                    self.assert_value(n.value // k, bases, operator.floordiv, n, k)
                    self.assert_value(n.value % k, bases, operator.mod, n, k)

    def test_what_does_not_divide(self):
        n = Numeral((1, 2), (3, 4))
        for k in (0, -1, -2, -GREAT):
            self.assert_raises(NoDivisor, [], operator.floordiv, n, k)
            self.assert_raises(NoDivisor, [], operator.mod, n, k)
        for thing in anything():
            if not exact_divisor(thing):
                self.assert_raises(NoDivisor, [], operator.floordiv, n, thing)
                self.assert_raises(NoDivisor, [], operator.mod, n, thing)


def exact_divisor(thing):
    """Whether it is a whole number from 1 on."""
    return thing.__class__ is int and thing >= 1


def raised(n, k):
    """The digits with each one k places higher, or None where n << k overflows."""
    wide = list(n.digits) + [0] * k
    over, rest = wide[:k], wide[k:]
    fits = all(digit < base for digit, base in zip(rest, n.bases))
    return tuple(rest) if fits and not any(over) else None


def lowered(n, k):
    """The digits with each one k places lower, or None where n >> k overflows."""
    wide = [0] * k + list(n.digits)
    kept = wide[:len(n.digits)]
    fits = all(digit < base for digit, base in zip(kept, n.bases))
    return tuple(kept) if fits else None


class TestShifts(ArithmeticCase):

    def assert_digits(self, digits, sign, n, k):
        """Assert that the shift gives these digits, or for None that it overflows."""
        if digits is None:
            self.assert_raises(Overflow, [n.value], sign, n, k)
        else:
            made = sign(n, k)
            self.assert_same((made.digits, made.bases), (digits, n.bases))

    def test_all_small_ones(self):
        for bases in SMALL + ((4, 2), (4, 3, 2), (2, 4, 3)):
            for n in all_of(bases):
                for k in range(7):
                    self.assert_digits(raised(n, k), operator.lshift, n, k)
                    self.assert_digits(lowered(n, k), operator.rshift, n, k)

    def test_a_digit_must_be_less_than_the_base_of_its_new_place(self):
        n = Numeral((0, 1, 2), (2, 10, 10))
        self.assert_same(str(n << 1), "1.2.0/2.10.10")
        self.assert_same(str(n << 0), "0.1.2/2.10.10")
        self.assert_raises(Overflow, [12], operator.lshift, n, 2)
        self.assert_raises(Overflow, [2], operator.lshift, Numeral((0, 2), (2, 3)), 1)
        self.assert_raises(Overflow, [4], operator.rshift, Numeral((2, 0), (3, 2)), 1)
        self.assert_same(str(Numeral((1, 0), (3, 2)) >> 1), "0.1/3.2")

    def test_a_digit_that_leaves_the_highest_place(self):
        self.assert_raises(Overflow, [109], operator.lshift, Numeral((1, 0, 9), (2, 10, 10)), 1)
        self.assert_same(str(Numeral((0, 0, 9), (2, 10, 10)) << 1), "0.9.0/2.10.10")

    def test_digits_that_leave_the_lowest_place_are_dropped(self):
        self.assert_same(str(Numeral((1, 0, 9), (2, 10, 10)) >> 1), "0.1.0/2.10.10")
        self.assert_same(str(Numeral((1, 0, 9), (2, 10, 10)) >> 3), "0.0.0/2.10.10")
        self.assert_same(str(Numeral((1, 9), (2, 10)) >> 1), "0.1/2.10")

    def test_by_very_much(self):
        for k in (4, 5, 100, GREAT):
            self.assert_same(str(Numeral((0, 0), (3, 4)) << k), "0.0/3.4")
            self.assert_raises(Overflow, [1], operator.lshift, Numeral((0, 1), (3, 4)), k)
            self.assert_same(str(Numeral((2, 3), (3, 4)) >> k), "0.0/3.4")


class TestDigitByDigit(ArithmeticCase):

    def test_joining(self):
        for bases in SMALL:
            for n, m in itertools.product(all_of(bases), repeat=2):
                digits = tuple((n[place] + m[place]) % base for place, base in enumerate(bases))
                self.assert_same(((n ^ m).digits, (n ^ m).bases), (digits, bases))

    def test_negatives_and_complements(self):
        for bases in SMALL:
            for n in all_of(bases):
                negative = tuple((base - n[place]) % base for place, base in enumerate(bases))
                turned = tuple(base - 1 - n[place] for place, base in enumerate(bases))
                self.assert_same(((-n).digits, (-n).bases), (negative, bases))
                self.assert_same(((~n).digits, (~n).bases), (turned, bases))
                self.assert_same((n ^ -n).value, 0)
                self.assertEqual(~~n, n)
                self.assertEqual(-(-n), n)

    def test_complements_turn_the_order(self):
        for n, m in itertools.product(all_of((2, 3, 4)), repeat=2):
            self.assertIs(n <= m, ~m <= ~n)


class TestInPlace(ArithmeticCase):

    def test_a_new_numeral_is_made_and_the_old_one_stays(self):
        cases = [
            (operator.iadd, 3, 12), (operator.isub, 3, 6), (operator.imul, 2, 18), (operator.ipow, 1, 9),
            (operator.ifloordiv, 2, 4), (operator.imod, 5, 4), (operator.ilshift, 1, 90),
            (operator.irshift, 1, 0), (operator.ixor, Numeral((1, 2), (10, 10)), 11),
            (operator.iadd, Numeral((1, 2), (10, 10)), 21), (operator.isub, Numeral((0, 2), (10, 10)), 7),
        ]
        for sign, other, value in cases:
            n = Numeral((0, 9), (10, 10))
            old = n
            n = sign(n, other)
            self.assert_same(n.value, value)
            self.assertIsNot(n, old)
            self.assert_same((old.digits, old.bases, old.value), ((0, 9), (10, 10), 9))

    def test_an_error_leaves_it(self):
        n = Numeral((9, 9), (10, 10))
        old = n
        with self.assertRaises(Overflow):
            n += 1
        self.assertIs(n, old)
        self.assert_same(n.value, 99)

    def test_no_operator_changes_its_numerals(self):
        n, m = Numeral((1, 1), (10, 10)), Numeral((0, 2), (10, 10))
        for sign in (operator.add, operator.sub, operator.xor):
            self.assertEqual(sign(n, m), sign(n, m))
        for sign in (operator.neg, operator.invert):
            self.assertEqual(sign(n), sign(n))
        self.assert_same((n.digits, n.value, m.digits, m.value), ((1, 1), 11, (0, 2), 2))


if __name__ == "__main__":
    unittest.main()
