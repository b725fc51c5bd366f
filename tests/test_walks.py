"""Walks that are told: point 28, and what point 3 says of them."""

import copy
import itertools
import random
import unittest
from fractions import Fraction

from examples import (EDGE, changed, covered, drawn_house, drawn_orders, edge_houses, full_rows, gains_along,
                      is_full_by_words, is_plain, joined, passing_row, prices_of, row_by_words, row_with, seven_houses,
                      some_houses, summed, ten_houses)
from fallgain.errors import NotFull, Passes
from fallgain.steps import levellest
from fallgain.walkpaper import right_walk
from fallgain.walks import walk


class WalkCase(unittest.TestCase):
    def ask(self, house, row, other):
        """Ask, and hold what is told against the words of the document."""
        before = copy.deepcopy((house, row, other))
        told = walk(house, row, other)
        self.assertTrue(is_plain(told))
        self.assertLessEqual(len(told), house[0] * house[0])
        self.follow(house, row, other, told)
        self.assertIs(right_walk(house, row, other, told), True)
        back = tuple((down, up, amount) for up, down, amount in told[::-1])
        self.assertIs(right_walk(house, other, row, back), True)
        self.assertEqual(walk(house, row, other), told)
        self.assertEqual((house, row, other), before)
        return told

    def follow(self, house, row, other, told):
        prices, there = prices_of(row), prices_of(other)
        lacking = sum(goal - price for price, goal in zip(prices, there) if goal > price)
        self.assertEqual(sum(Fraction(*amount) for up, down, amount in told), lacking)
        for up, down, (top, bottom) in told:
            amount = Fraction(top, bottom)
            self.assertEqual((amount.numerator, amount.denominator), (top, bottom))
            self.assertGreater(amount, 0)
            self.assertLess(prices[up], there[up])
            self.assertGreater(prices[down], there[down])
            prices[up] += amount
            prices[down] -= amount
            self.assertLessEqual(prices[up], there[up])
            self.assertGreaterEqual(prices[down], there[down])
            self.assertTrue(is_full_by_words(house, prices))
        self.assertEqual(prices, there)


class WalksTest(WalkCase):
    def test_small_houses(self):
        dice = random.Random(701)
        lengths = set()
        for house in some_houses() + edge_houses():
            rows = full_rows(dice, house, 1) + full_rows(dice, house, 1)[:2]
            rows.append(levellest(house, (1,) * house[0]))
            rows.append(levellest(house, tuple(range(1, house[0] + 1))))
            for row, other in itertools.permutations(rows, 2):
                lengths.add(len(self.ask(house, row, other)))
        self.assertGreater(len(lengths), 4)

    def test_all_orders_of_three_and_four(self):
        dice = random.Random(702)
        for many in (2, 3, 4):
            house = drawn_house(dice, many)
            orders = list(itertools.permutations(range(many)))
            for one, other in dice.sample(list(itertools.product(orders, repeat=2)), min(60, len(orders) ** 2)):
                self.ask(house, (gains_along(house, one), 1), (gains_along(house, other), 1))

    def test_where_things_are_asked_once_each(self):
        dice = random.Random(703)
        stopped = 0
        for turn in range(150):
            many = dice.choice((4, 5, 6))
            pairs = [2 ** one | 2 ** other for one, other in itertools.combinations(range(many), 2)]
            house = covered(many, [pair for pair in pairs for times in range(dice.randint(0, 4))])
            row, other = [(gains_along(house, order), 1) for order in drawn_orders(dice, many, 2)]
            told = self.ask(house, row, other)
            # Some exchange is by the room alone, which neither of the two comes to its end by.
            prices, there = prices_of(row), prices_of(other)
            for up, down, amount in told:
                prices[up] += Fraction(*amount)
                prices[down] -= Fraction(*amount)
                stopped += prices[up] != there[up] and prices[down] != there[down]
        self.assertGreater(stopped, 10)

    def test_from_a_row_to_itself(self):
        dice = random.Random(704)
        for house in some_houses() + edge_houses():
            for row in full_rows(dice, house, 1):
                self.assertEqual(walk(house, row, row), ())

    def test_of_one_thing_and_of_sums_there_is_one_row(self):
        self.assertEqual(walk((1, (0, 7)), ((7,), 1), ((7,), 1)), ())
        self.assertEqual(walk(summed(3, (1, 2, 3)), ((1, 2, 3), 1), ((1, 2, 3), 1)), ())

    def test_known_ones(self):
        house = (2, (0, 3, 4, 5))
        self.assertEqual(walk(house, ((3, 2), 1), ((1, 4), 1)), ((1, 0, (2, 1)),))
        self.assertEqual(walk(house, ((3, 7), 2), ((5, 5), 2)), ((0, 1, (1, 1)),))
        self.assertEqual(walk(house, ((3, 7), 2), ((7, 8), 3)), ((0, 1, (5, 6)),))

    def test_at_the_bound(self):
        house = (2, (0, EDGE, EDGE, -EDGE))
        self.assertEqual(self.ask(house, ((EDGE, -2 * EDGE), 1), ((-2 * EDGE, EDGE), 1)), ((1, 0, (3 * EDGE, 1)),))

    def test_seven_things(self):
        dice = random.Random(705)
        for house in seven_houses():
            rows = full_rows(dice, house, 1) + [levellest(house, (1,) * 7)]
            for row, other in itertools.permutations(rows, 2):
                self.ask(house, row, other)

    def test_ten_things(self):
        house = joined(covered(10, (96, 640, 1023, 7)), summed(10, (1, -1) * 5))
        mixed = row_by_words(house, ((2, tuple(range(10))), (5, tuple(range(9, -1, -1)))))
        self.ask(house, (gains_along(house, tuple(range(10))), 1), mixed)
        self.ask(house, mixed, levellest(house, (1,) * 10))
        house = ten_houses()[2]
        self.ask(house, (gains_along(house, tuple(range(10))), 1), (gains_along(house, tuple(range(9, -1, -1))), 1))


class RefusedTest(unittest.TestCase):
    def refused(self, house, row, other, error):
        with self.assertRaises(error) as caught:
            walk(house, row, other)
        return caught.exception

    def test_passes(self):
        dice = random.Random(706)
        for house in some_houses():
            row, where = passing_row(house)
            full = full_rows(dice, house, 1)[1]
            for first, second in ((row, full), (full, row), (row, row)):
                self.assertEqual(self.refused(house, first, second, Passes).where, where)

    def test_not_full(self):
        dice = random.Random(707)
        for house in some_houses():
            full = full_rows(dice, house, 1)[1]
            prices = prices_of(full)
            low = row_with(changed(tuple(prices), 0, prices[0] - Fraction(1, 3)))
            for first, second in ((low, full), (full, low), (low, low)):
                self.refused(house, first, second, NotFull)

    def test_all_of_the_first_ahead_of_the_second(self):
        house = (2, (0, 3, 4, 5))
        low, high, higher = ((3, 1), 1), ((4, 1), 1), ((1, 5), 1)
        self.refused(house, low, high, NotFull)
        self.assertEqual(self.refused(house, high, low, Passes).where, 1)
        self.assertEqual(self.refused(house, high, higher, Passes).where, 1)
        self.assertEqual(self.refused(house, higher, high, Passes).where, 2)


if __name__ == "__main__":
    unittest.main()
