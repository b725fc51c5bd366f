"""Full rows taken apart: point 16, and what point 3 says of them."""

import itertools
import random
import unittest
from fractions import Fraction

from examples import (changed, cost, drawn_mixture, drawn_orders, edge_houses, gains_along, houses_with_several,
                      joined, prices_of, row_by_words, row_with, some_houses, summed, ten_houses)
from fallgain.apart import taken_apart
from fallgain.below import is_full, raised
from fallgain.errors import NotFull, Passes
from fallgain.mixtures import is_mixture, mixture_row


def half_way(one, other):
    """The row in the middle of two rows."""
    return row_with([(a + b) / 2 for a, b in zip(prices_of(one), prices_of(other))])


def first_passed(house, row):
    """The first set whose price is above its worth, or None."""
    prices = prices_of(row)
    passed = [number for number, worth in enumerate(house[1]) if cost(prices, number) > worth]
    return passed[0] if passed else None


def all_houses():
    return some_houses() + houses_with_several()[::2] + edge_houses() + ten_houses()


class TakenApartTest(unittest.TestCase):
    def check(self, house, row):
        told = taken_apart(house, row)
        self.assertIs(is_mixture(house[0], told), True)
        self.assertLessEqual(len(told), house[0])
        self.assertEqual(row_by_words(house, told), row)
        self.assertEqual(mixture_row(house, told), row)
        self.assertEqual(taken_apart(house, row), told)
        return told

    def test_rows_of_single_orders(self):
        dice = random.Random(1)
        for house in all_houses():
            for order in drawn_orders(dice, house[0], 6):
                prices = gains_along(house, order)
                for count, told in self.check(house, (prices, 1)):
                    self.assertEqual(gains_along(house, told), prices)

    def test_every_order_of_four_things(self):
        for house in some_houses():
            if house[0] == 4:
                for order in itertools.permutations(range(4)):
                    self.check(house, (gains_along(house, order), 1))

    def test_mixtures(self):
        dice = random.Random(2)
        for house in all_houses():
            for size, greatest in itertools.product(range(1, 7), (1, 9, 10 ** 18)):
                self.check(house, row_by_words(house, drawn_mixture(dice, house[0], size, greatest)))

    def test_mixtures_of_many_pairs(self):
        dice = random.Random(3)
        for house in all_houses():
            self.check(house, row_by_words(house, drawn_mixture(dice, house[0], 40, 10 ** 6)))

    def test_raised_rows(self):
        dice = random.Random(4)
        for house in all_houses():
            many = house[0]
            for order in drawn_orders(dice, many, 3):
                full = row_by_words(house, drawn_mixture(dice, many, 3, 20))
                for drop in (Fraction(0), Fraction(1, 6), Fraction(7, 2), Fraction(10 ** 16)):
                    row = row_with([price - drop * dice.randint(0, 2) for price in prices_of(full)])
                    self.check(house, raised(house, row, order))

    def test_half_way_between_two_full_rows(self):
        dice = random.Random(5)
        for house in all_houses():
            many = house[0]
            for turn in range(4):
                one = row_by_words(house, drawn_mixture(dice, many, 1, 1))
                other = row_by_words(house, drawn_mixture(dice, many, turn + 1, 9))
                self.check(house, half_way(one, other))

    def test_again_and_again_half_way(self):
        dice = random.Random(6)
        for house in (some_houses()[-1], ten_houses()[1]):
            row = row_by_words(house, drawn_mixture(dice, house[0], 1, 1))
            for turn in range(60):
                row = half_way(row, row_by_words(house, drawn_mixture(dice, house[0], 1, 1)))
            self.assertGreater(row[1], 10 ** 6)
            self.check(house, row)

    def test_one_thing(self):
        for price in (0, 5, -7, 10 ** 15):
            told = self.check((1, (0, price)), ((price,), 1))
            self.assertEqual([order for count, order in told], [(0,)])

    def test_one_full_row_alone(self):
        house = summed(10, tuple(range(-4, 6)))
        self.check(house, (tuple(range(-4, 6)), 1))

    def test_named_row(self):
        told = self.check((2, (0, 3, 4, 5)), ((3, 7), 2))
        self.assertEqual(sorted(order for count, order in told), [(0, 1), (1, 0)])
        counts = dict((order, count) for count, order in told)
        self.assertEqual(counts[(1, 0)], 3 * counts[(0, 1)])

    def test_what_is_handed_in_stays(self):
        house, row = (2, (0, 3, 4, 5)), ((3, 7), 2)
        taken_apart(house, row)
        self.assertEqual((house, row), ((2, (0, 3, 4, 5)), ((3, 7), 2)))


class RefusedTest(unittest.TestCase):
    def passes(self, house, row):
        expected = first_passed(house, row)
        self.assertIsNotNone(expected)
        with self.assertRaises(Passes) as caught:
            taken_apart(house, row)
        self.assertEqual(caught.exception.where, expected)

    def test_rows_that_pass(self):
        dice = random.Random(7)
        for house in all_houses():
            row = row_by_words(house, drawn_mixture(dice, house[0], 2, 9))
            for thing in range(house[0]):
                self.passes(house, row_with(changed(tuple(prices_of(row)), thing, prices_of(row)[thing] + 1)))

    def test_rows_that_pass_and_cost_less_or_just_as_much_in_all(self):
        dice = random.Random(8)
        for house in all_houses():
            many = house[0]
            row = row_by_words(house, drawn_mixture(dice, many, 2, 9))
            for one, other in list(itertools.permutations(range(many), 2))[:12]:
                for less in (0, 1, 10 ** 17):
                    prices = list(prices_of(row))
                    prices[one] += 10 ** 16
                    prices[other] -= 10 ** 16 + less
                    self.passes(house, row_with(prices))

    def test_the_first_set_where_it_is_not_full_as_well(self):
        house = (3, (0, 3, 3, 4, 3, 4, 4, 4))
        for row, where in ((((0, 4, 0), 1), 2), (((0, 0, 4), 1), 4), (((1, 2, 3), 1), 6), (((4, -9, 4), 1), 1)):
            self.assertEqual(first_passed(house, row), where)
            self.passes(house, row)

    def test_below_and_not_full(self):
        dice = random.Random(9)
        for house in all_houses():
            many = house[0]
            row = row_by_words(house, drawn_mixture(dice, many, 2, 9))
            for thing in range(many):
                for less in (Fraction(1, 10 ** 6), Fraction(1), Fraction(10 ** 18)):
                    prices = list(prices_of(row))
                    prices[thing] -= less
                    lower = row_with(prices)
                    self.assertIs(is_full(house, lower), False)
                    with self.assertRaises(NotFull):
                        taken_apart(house, lower)

    def test_far_below(self):
        house = joined(ten_houses()[0], summed(10, (1,) * 10))
        with self.assertRaises(NotFull):
            taken_apart(house, ((-10 ** 18,) * 10, 1))


if __name__ == "__main__":
    unittest.main()
