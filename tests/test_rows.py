"""Carries and rows of numerals: carry [8] and numerals_from."""

import itertools
import unittest

from risingread.errors import Overflow, Unlike
from risingread.numerals import Numeral, carry, numerals_from
from tests.helper import Case
from tests.test_numerals import all_of


class TestCarry(Case):

    def test_places_from_the_lowest_up(self):
        cases = {
            "1.0.8/2.10.10": [2], "1.0.9/2.10.10": [2, 1], "0.9.9/2.10.10": [2, 1, 0],
            "0.0.9.9/2.2.10.10": [3, 2, 1], "0.1.9.9/2.2.10.10": [3, 2, 1, 0], "0/2": [0],
        }
        for text, places in cases.items():
            self.assert_same(carry(Numeral.read(text)), places)

    def test_all_small_ones(self):
        for bases in ((5,), (3, 2), (2, 3, 4), (2, 3, 2, 2)):
            for n, m in itertools.pairwise(all_of(bases)):
                places = [place for place in range(len(bases)) if n[place] != m[place]]
                self.assert_same(carry(n), places[::-1])

    def test_the_greatest_has_none(self):
        for bases in ((2,), (2, 10, 10), (100, 100, 100, 100)):
            greatest = Numeral([base - 1 for base in bases], bases)
            self.assert_raises(Overflow, [greatest.value + 1], carry, greatest)

    def test_a_new_list_each_time(self):
        n = Numeral((1, 0, 9), (2, 10, 10))
        carry(n).append(5)
        self.assert_same(carry(n), [2, 1])
        self.assert_same(n.value, 109)


class TestNumeralsFrom(Case):

    def test_from_low_to_high(self):
        low, high = Numeral.of(9, (3, 10)), Numeral.of(11, (3, 10))
        self.assert_same([str(x) for x in numerals_from(low, high)], ["0.9/3.10", "1.0/3.10", "1.1/3.10"])
        self.assert_same([str(x) for x in numerals_from(low, high)], ["0.9/3.10", "1.0/3.10", "1.1/3.10"])
        self.assert_same((low.value, high.value), (9, 11))

    def test_all_pairs(self):
        some = all_of((2, 3, 2))
        for low, high in itertools.product(some, repeat=2):
            self.assertEqual(list(numerals_from(low, high)), some[low.value:high.value + 1])

    def test_one_and_none(self):
        n = Numeral.of(9, (3, 10))
        self.assertEqual(list(numerals_from(n, n)), [n])
        self.assertEqual(list(numerals_from(n, Numeral.of(8, (3, 10)))), [])

    def test_up_to_the_greatest(self):
        low, high = Numeral.of(28, (3, 10)), Numeral.of(29, (3, 10))
        self.assertEqual(list(numerals_from(low, high)), [low, high])

    def test_one_by_one_when_the_row_is_very_long(self):
        bases = (100, 100, 100, 100)
        row = iter(numerals_from(Numeral.of(0, bases), Numeral.of(10 ** 8 - 1, bases)))
        self.assert_same([str(next(row)) for _ in range(3)],
                         ["0.0.0.0/100.100.100.100", "0.0.0.1/100.100.100.100", "0.0.0.2/100.100.100.100"])

    def test_unlike_bases(self):
        one, other = Numeral((0, 1), (2, 3)), Numeral((0, 1), (2, 4))
        for low, high in ((one, other), (other, one), (Numeral((1,), (2,)), one)):
            self.assert_raises(Unlike, [], lambda: next(iter(numerals_from(low, high))))


if __name__ == "__main__":
    unittest.main()
