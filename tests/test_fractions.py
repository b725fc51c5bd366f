"""Fractions: point 12's last but one sentence, and the interface."""

import itertools
import math
import unittest
from fractions import Fraction

from examples import no_numbers
from fallgain.fractions import common_multiple, is_fraction, is_less, lowest_terms, plus, times

LONG = 1234567890123456789012345678901234567890
OTHER_LONG = 9876543210987654321098765432109876543211
TOPS = (0, 1, -1, 2, 6, -6, 35, 10 ** 18, -10 ** 18, LONG, -LONG, 6 * OTHER_LONG)
BOTTOMS = (1, -1, 2, -4, 6, 35, 10 ** 6, 15 * LONG, -OTHER_LONG, 4 * OTHER_LONG)


def pair(value):
    return (value.numerator, value.denominator)


def all_fractions():
    return sorted({pair(Fraction(top, bottom)) for top in TOPS for bottom in BOTTOMS})


class LowestTermsTest(unittest.TestCase):
    def test_named_cases(self):
        self.assertEqual(lowest_terms(6, 4), (3, 2))
        self.assertEqual(lowest_terms(-6, 4), (-3, 2))
        self.assertEqual(lowest_terms(6, -4), (-3, 2))
        self.assertEqual(lowest_terms(-6, -4), (3, 2))
        self.assertEqual(lowest_terms(7, 1), (7, 1))
        self.assertEqual(lowest_terms(7, 7), (1, 1))
        self.assertEqual(lowest_terms(7, -7), (-1, 1))

    def test_nought_is_always_nought_over_one(self):
        for bottom in BOTTOMS:
            self.assertEqual(lowest_terms(0, bottom), (0, 1))

    def test_numbers_of_forty_figures(self):
        self.assertEqual(lowest_terms(6 * LONG, -9 * LONG), (-2, 3))
        self.assertEqual(lowest_terms(LONG * OTHER_LONG, LONG), (OTHER_LONG, 1))

    def test_every_pair_of_samples(self):
        for top, bottom in itertools.product(TOPS, BOTTOMS):
            with self.subTest(top=top, bottom=bottom):
                told = lowest_terms(top, bottom)
                self.assertEqual(told, pair(Fraction(top, bottom)))
                self.assertIs(type(told), tuple)
                self.assertEqual(told, lowest_terms(top, bottom))


class IsFractionTest(unittest.TestCase):
    def test_every_pair_of_samples(self):
        for top, bottom in itertools.product(TOPS, BOTTOMS):
            right = bottom > 0 and pair(Fraction(top, bottom)) == (top, bottom)
            self.assertIs(is_fraction((top, bottom)), right)

    def test_what_is_none(self):
        for value in [*no_numbers(), 1, (1, 0), (0, 0), (0, 2), (2, 4), (1, -1), [1, 2], (1, 2, 3), ((1, 2),), (True, 2),
                      (1, True), (1, None), ("1", 2)]:
            self.assertIs(is_fraction(value), False, value)


class CommonMultipleTest(unittest.TestCase):
    def test_some(self):
        self.assertEqual(common_multiple([]), 1)
        for numbers in ([1], [7], [4, 6], [6, 4, 9], [LONG, OTHER_LONG, 2 * LONG], list(range(1, 60))):
            self.assertEqual(common_multiple(numbers), math.lcm(*numbers))


class SumsTest(unittest.TestCase):
    def test_named_cases(self):
        self.assertEqual(plus((1, 2), (1, 2)), (1, 1))
        self.assertEqual(plus((1, 6), (1, 3)), (1, 2))
        self.assertEqual(plus((1, 2), (-1, 2)), (0, 1))
        self.assertEqual(times((2, 3), (3, 2)), (1, 1))
        self.assertEqual(times((0, 1), (-3, 2)), (0, 1))
        self.assertEqual(times((-2, 3), (-3, 4)), (1, 2))

    def test_every_pair_of_samples(self):
        samples = all_fractions()
        for one, other in itertools.product(samples, samples):
            left, right = Fraction(*one), Fraction(*other)
            self.assertEqual(plus(one, other), pair(left + right))
            self.assertEqual(times(one, other), pair(left * right))

    def test_is_less_is_true_or_false(self):
        samples = all_fractions()
        for one, other in itertools.product(samples, samples):
            self.assertIs(is_less(one, other), Fraction(*one) < Fraction(*other))
        self.assertIs(is_less((-1, 2), (1, 3)), True)
        self.assertIs(is_less((1, 2), (1, 2)), False)
        self.assertIs(is_less((1, 3), (-1, 2)), False)


if __name__ == "__main__":
    unittest.main()
