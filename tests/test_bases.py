"""Bases and weights [4], versions that keep a kind, their bases, and turned ones [8]."""

import itertools
import unittest

from risingread.bases import bases_for, count_of, first_fall, is_bases, turned_versions, weights
from risingread.errors import NoNumeral
from tests.helper import Case, anything

RIGHT = [(2,), [2], (100,), [2, 100], (2, 10, 10), [3, 2, 4, 100], (100, 100, 100, 100)]
WRONG = [
    (), [], (2, 2, 2, 2, 2), [3] * 5, (1,), (101,), (0,), (-2,), (2, 1), (2, 3, 4, 101), (10 ** 40,),
    (True,), (2, True), (2, None), (2, "3"), ("2",), ((2,),), [[2]], [2, [3]], (2, {}),
    2, True, False, None, "", "2", "23", {}, {2: 3}, {0: 2, 1: 3},
]


class TestBases(Case):

    def test_what_are_bases(self):
        for bases in RIGHT:
            self.assertIs(is_bases(bases), True, bases)
        for bases in WRONG:
            self.assertIs(is_bases(bases), False, bases)

    def test_anything_is_told_of_by_true_or_false(self):
        for thing in anything():
            self.assertIs(is_bases(thing), thing in ([2], (2,)), thing)

    def test_each_base_has_its_bounds_at_each_place(self):
        for many in range(1, 5):
            for place in range(many):
                for base in (-1, 0, 1, 2, 3, 99, 100, 101, True, "2", None):
                    bases = [5] * many
                    bases[place] = base
                    right = base in (2, 3, 99, 100)
                    self.assertIs(is_bases(bases), right, bases)
                    self.assertIs(is_bases(tuple(bases)), right, bases)

    def test_weights_are_products_of_the_lower_bases(self):
        self.assert_same(weights((2, 10, 10)), (100, 10, 1))
        self.assert_same(weights([7]), (1,))
        self.assert_same(weights([2, 3, 4, 5]), (60, 20, 5, 1))
        self.assert_same(weights((100, 100, 100, 100)), (1000000, 10000, 100, 1))

    def test_count_is_the_product_of_all_bases(self):
        self.assert_same(count_of((2, 10, 10)), 200)
        self.assert_same(count_of([7]), 7)
        self.assert_same(count_of([2, 3, 4, 5]), 120)
        self.assert_same(count_of((100, 100, 100, 100)), 10 ** 8)

    def test_what_are_no_bases_have_no_weights_and_no_count(self):
        for bases in WRONG:
            self.assert_raises(NoNumeral, [None], weights, bases)
            self.assert_raises(NoNumeral, [None], count_of, bases)

    def test_arguments_stay(self):
        for call in (is_bases, weights, count_of):
            self.assert_stays(call, [2, 3, 4])


class TestFirstFall(Case):

    def test_strict_must_rise(self):
        self.assert_same(first_fall("strict", [(0, 9), (1, 0), (1, 0)]), 2)
        self.assert_same(first_fall("strict", [(0, 9), (0, 8)]), 1)
        self.assert_same(first_fall("strict", [(0, 9), (1, 0), (1, 1), (2, 0)]), None)

    def test_weak_must_not_fall(self):
        self.assert_same(first_fall("weak", [(0, 9), (1, 0), (1, 0)]), None)
        self.assert_same(first_fall("weak", [(0, 9), (0, 9), (1, 0), (0, 9), (0, 8)]), 3)

    def test_free_may_do_anything(self):
        self.assert_same(first_fall("free", [(5, 5), (0, 0), (0, 0), (9, 9), (1, 1)]), None)

    def test_the_highest_place_counts_first(self):
        self.assert_same(first_fall("strict", [(0, 9, 9), (1, 0, 0)]), None)
        self.assert_same(first_fall("strict", [(1, 0, 0), (0, 9, 9)]), 1)
        self.assert_same(first_fall("weak", [(1, 0, 0), (0, 9, 9)]), 1)

    def test_few_versions_keep_each_kind(self):
        for kind in ("strict", "weak", "free"):
            self.assert_same(first_fall(kind, []), None)
            self.assert_same(first_fall(kind, [(3, 1)]), None)

    def test_the_first_one_is_told_and_digits_may_be_great(self):
        great = 10 ** 40
        rows = [(great,), (great + 1,), (great,), (great - 1,)]
        self.assert_same(first_fall("strict", rows), 2)
        self.assert_same(first_fall("weak", rows), 2)

    def test_arguments_stay(self):
        self.assert_stays(first_fall, "strict", [(1, 0), (1, 0)])


class TestBasesFor(Case):

    def test_the_greatest_digit_and_one(self):
        self.assert_same(bases_for([(0, 9), (1, 0), (3, 4)]), (4, 10))

    def test_at_least_two(self):
        self.assert_same(bases_for([(0, 0, 1)]), (2, 2, 2))
        self.assert_same(bases_for([(0,), (1,)]), (2,))
        self.assert_same(bases_for([(2,)]), (3,))

    def test_digits_may_be_greater_than_a_base_of_a_numeral(self):
        self.assert_same(bases_for([(99, 100), (5, 10 ** 40)]), (100, 10 ** 40 + 1))

    def test_arguments_stay(self):
        self.assert_stays(bases_for, [(0, 9), (1, 0)])


class TestTurnedVersions(Case):

    def test_reversed_with_turned_digits(self):
        self.assert_same(turned_versions([(0, 9), (1, 0)], (2, 10)), [(0, 9), (1, 0)])
        self.assert_same(turned_versions([(0, 1), (1, 5), (3, 0)], [4, 6]), [(0, 5), (2, 0), (3, 4)])
        self.assert_same(turned_versions([(2,)], (3,)), [(0,)])
        self.assert_same(turned_versions([], (3,)), [])

    def test_turned_twice_is_as_before(self):
        rows = [(0, 1, 2), (4, 0, 1), (3, 3, 3), (3, 3, 3)]
        self.assert_same(turned_versions(turned_versions(rows, (5, 4, 9)), (5, 4, 9)), rows)

    def test_what_keeps_a_kind_keeps_it_turned(self):
        digits = list(itertools.product(range(2), range(3)))
        for rows in itertools.product(digits, repeat=3):
            for kind in ("strict", "weak", "free"):
                kept = first_fall(kind, list(rows)) is None
                turned = turned_versions(list(rows), (2, 3))
                self.assertEqual(first_fall(kind, turned) is None, kept)

    def test_arguments_stay(self):
        self.assert_stays(turned_versions, [(0, 9), (1, 0)], [2, 10])


if __name__ == "__main__":
    unittest.main()
