"""Rows of prices: point 12."""

import copy
import itertools
import math
import unittest
from fractions import Fraction

from examples import FAR, changed, nested, no_numbers
from fallgain.rows import is_row, price_of

ROWS = [
    ((0,), 1),
    ((5,), 1),
    ((-3,), 2),
    ((0, 0, 0), 1),
    ((1, 2, 3), 6),
    ((2, 4, 3), 6),
    ((6, 10, 15), 30),
    ((4, 0, -6), 3),
    ((10 ** 18, -10 ** 18, 1), 10 ** 6),
    ((10 ** 400 + 1, 3, 0), 10 ** 400),
    ((-FAR, FAR, 0, 1), FAR),
    (tuple(range(10)), 7),
]


class IsRowTest(unittest.TestCase):
    def is_none(self, many, thing):
        before = copy.deepcopy(thing)
        self.assertIs(is_row(many, thing), False, (many, thing))
        self.assertEqual(thing, before)

    def test_rows(self):
        for row in ROWS:
            self.assertIs(is_row(len(row[0]), row), True)
            self.assertIs(is_row(len(row[0]), row), True)

    def test_lowest_terms(self):
        for row in ROWS:
            for factor in (2, 3, 7, 10 ** 40):
                numbers = tuple(number * factor for number in row[0])
                self.is_none(len(numbers), (numbers, row[1] * factor))
        for bottom in range(1, 13):
            for numbers in itertools.product(range(-6, 7), repeat=2):
                self.assertIs(is_row(2, (numbers, bottom)), math.gcd(bottom, *numbers) == 1)

    def test_noughts_have_the_bottom_one(self):
        self.assertIs(is_row(3, ((0, 0, 0), 1)), True)
        for bottom in (2, 3, 10 ** 6, FAR):
            self.is_none(3, ((0, 0, 0), bottom))

    def test_bottoms(self):
        for bottom in [0, -1, -5, -FAR, *no_numbers()]:
            self.is_none(2, ((1, 2), bottom))
            self.is_none(2, ((0, 0), bottom))

    def test_numbers(self):
        for value in no_numbers():
            for at in range(3):
                self.is_none(3, (changed((1, 1, 1), at, value), 1))
            self.is_none(1, (value, 1) if value != (1,) else ((True,), 1))

    def test_one_more_or_fewer(self):
        for many in range(1, 11):
            for size in range(12):
                self.assertIs(is_row(many, ((1,) * size, 1)), many == size)

    def test_no_tuples(self):
        self.is_none(2, ([1, 2], 1))
        self.is_none(2, [(1, 2), 1])
        self.is_none(2, ((1, 2),))
        self.is_none(2, ((1, 2), 1, 1))
        self.is_none(2, (1, 2))
        self.is_none(2, (1, (1, 2)))
        self.is_none(2, {0: (1, 2), 1: 1})
        for value in [0, FAR, *no_numbers(), nested(29), tuple(range(20000)), (tuple(range(19990)), 1)]:
            self.is_none(2, value)


class PriceOfTest(unittest.TestCase):
    def test_no_things_cost_nought(self):
        for row in ROWS:
            self.assertEqual(price_of(row, 0), (0, 1))

    def test_every_set(self):
        for row in ROWS:
            numbers, bottom = row
            for number in range(2 ** len(numbers)):
                things = [thing for thing in range(len(numbers)) if number & 2 ** thing]
                expected = sum((Fraction(numbers[thing], bottom) for thing in things), Fraction(0))
                told = price_of(row, number)
                self.assertEqual(told, (expected.numerator, expected.denominator))
                self.assertEqual(told, price_of(row, number))
                self.assertIs(type(told), tuple)

    def test_named_prices(self):
        self.assertEqual(price_of(((1, 2, 3), 6), 1), (1, 6))
        self.assertEqual(price_of(((1, 2, 3), 6), 7), (1, 1))
        self.assertEqual(price_of(((3, -3, 1), 5), 3), (0, 1))
        self.assertEqual(price_of(((-3, -3, 1), 4), 3), (-3, 2))


if __name__ == "__main__":
    unittest.main()
