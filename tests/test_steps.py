"""Steps: points 22 to 24, and what point 3 says of them."""

import itertools
import math
import random
import unittest
from fractions import Fraction

from examples import (EDGE, changed, cost, counted, covered, drawn_house, drawn_mixture, drawn_orders, edge_houses,
                      gains_along, houses_with_several, is_plain, joined, left_with_least, noughts, prices_of,
                      row_by_words, row_with, some_houses, summed, ten_houses, weights_for, within)
from fallgain.below import is_full
from fallgain.making import house_of
from fallgain.rows import is_row
from fallgain.steppaper import right_steps
from fallgain.steps import lean, levellest, steps_of

FARTHEST = 10 ** 18


def ten_of_pieces():
    """Houses of ten things, of one piece or two."""
    bent = ("bent", 1023, (9, 9, 5, 5, 5, 1, 0, 0, -2, -7))
    return [house_of(10, (bent,)), house_of(10, (bent, ("sum", (4, -4, 3, 3, 0, 0, -9, 2, 2, 1)))),
            house_of(10, (("meet", 7, 85), ("cut", 4, 8, 1)))]


def houses_to_five():
    return some_houses() + houses_with_several()[::3] + edge_houses() + [noughts(many) for many in range(1, 6)]


def houses_to_eight():
    dice = random.Random(81)
    return houses_to_five() + [drawn_house(dice, many) for many in (6, 6, 7, 7, 8, 8)] + [noughts(8)]


def some_cases():
    """Houses with weights."""
    cases = [(house, weights) for house in houses_to_eight() for weights in weights_for(house[0])]
    return cases + [(house, weights) for house in ten_of_pieces() for weights in weights_for(10)[::2]]


CASES = [(house, weights, steps_of(house, weights)) for house, weights in some_cases()]


def hull(some):
    """The things that are in all of the sets, and those that are in one or more."""
    common, together = some[0], 0
    for number in some:
        common, together = common & number, together | number
    return (common, together)


def level(prices, weights):
    """How far from level the prices are."""
    return sum(price * price / weight for price, weight in zip(prices, weights))


def full_rows(house, dice):
    """Prices of full rows: of orders, and of mixtures."""
    orders = drawn_orders(dice, house[0], 4)
    rows = [tuple(map(Fraction, gains_along(house, order))) for order in orders]
    return rows + [tuple(prices_of(row_by_words(house, drawn_mixture(dice, house[0], size, 9)))) for size in (2, 3, 5)]


class StepsOfTest(unittest.TestCase):
    def test_right_steps_lets_it_by(self):
        for house, weights, told in CASES:
            self.assertIs(right_steps(house, weights, told), True)
            self.assertTrue(is_plain(told))
            self.assertIs(type(told), tuple)
            self.assertLessEqual(len(told[0]), house[0])

    def test_the_same_again(self):
        for house, weights, told in CASES[::3]:
            self.assertEqual(steps_of(house, weights), told)

    def test_at_each_fraction(self):
        several = 0
        for house, weights, (steps, mixture) in CASES:
            ahead = 0
            for top, bottom, number in steps:
                some = left_with_least(house, weights, Fraction(top, bottom))
                self.assertTrue(ahead in some and number in some)
                self.assertTrue(all(within(ahead, other) and within(other, number) for other in some))
                several += len(some) > 2
                ahead = number
            self.assertEqual(ahead, 2 ** house[0] - 1)
        self.assertGreater(several, 50)

    def test_below_between_and_above(self):
        for house, weights, (steps, mixture) in CASES:
            prices = [Fraction(top, bottom) for top, bottom, number in steps]
            for less in (Fraction(1, 10 ** 9), Fraction(1), Fraction(10 ** 16)):
                self.assertEqual(left_with_least(house, weights, prices[0] - less), [0])
                self.assertEqual(left_with_least(house, weights, prices[-1] + less), [2 ** house[0] - 1])
            for (top, bottom, number), low, high in zip(steps, prices, prices[1:]):
                for share in (Fraction(1, 2), Fraction(1, 10 ** 6), 1 - Fraction(1, 10 ** 6)):
                    self.assertEqual(left_with_least(house, weights, low + share * (high - low)), [number])

    def test_named_steps(self):
        self.assertEqual(steps_of((1, (0, 7)), (1,)), (((7, 1, 1),), ((1, (0,)),)))
        self.assertEqual(steps_of((1, (0, 7)), (14,))[0], ((1, 2, 1),))
        self.assertEqual(steps_of((1, (0, -7)), (1000,))[0], ((-7, 1000, 1),))
        self.assertEqual(steps_of((1, (0, 0)), (1000,))[0], ((0, 1, 1),))
        house = (2, (0, 3, 4, 5))
        self.assertEqual(steps_of(house, (1, 1))[0], ((5, 2, 3),))
        self.assertEqual(steps_of(house, (1, 9))[0], ((4, 9, 2), (1, 1, 3)))
        self.assertEqual(steps_of(house, (9, 1))[0], ((1, 3, 1), (2, 1, 3)))
        self.assertEqual(steps_of(summed(3, (1, 2, 3)), (1, 1, 1))[0], ((1, 1, 1), (2, 1, 3), (3, 1, 7)))
        self.assertEqual(steps_of(summed(3, (1, 2, 3)), (1, 2, 3))[0], ((1, 1, 7),))
        self.assertEqual(steps_of(summed(3, (-6, -6, 0)), (1, 4, 1))[0], ((-6, 1, 1), (-3, 2, 3), (0, 1, 7)))

    def test_a_step_for_each_thing_and_one_for_all(self):
        for many in range(1, 9):
            prices = tuple(3 * thing - 7 for thing in range(many))
            steps = steps_of(summed(many, prices), (1,) * many)[0]
            self.assertEqual(steps, tuple((price, 1, 2 ** (at + 1) - 1) for at, price in enumerate(prices)))
            self.assertEqual(steps_of(noughts(many), (1,) * many)[0], ((0, 1, 2 ** many - 1),))

    def test_weights_so_many_times_as_great(self):
        for house in houses_to_five():
            one = steps_of(house, (1,) * house[0])[0]
            for factor in (2, 6, 1000):
                other = steps_of(house, (factor,) * house[0])[0]
                self.assertEqual([Fraction(top, bottom) for top, bottom, number in one],
                                 [factor * Fraction(top, bottom) for top, bottom, number in other])
                self.assertEqual([step[2] for step in one], [step[2] for step in other])

    def test_worths_at_the_bound(self):
        self.assertEqual(steps_of((2, (0, EDGE, -EDGE, 0)), (1, 1000))[0], ((-EDGE // 1000, 1, 2), (EDGE, 1, 3)))
        self.assertEqual(steps_of(counted(2, (EDGE, -2 * EDGE)), (1, 1))[0], ((-EDGE // 2, 1, 3),))

    def test_what_is_handed_in_stays(self):
        house, weights = (2, (0, 3, 4, 5)), (1, 9)
        for ask in (steps_of, levellest):
            ask(house, weights)
            self.assertEqual((house, weights), ((2, (0, 3, 4, 5)), (1, 9)))


class LeanTest(unittest.TestCase):
    def check(self, house, weights, top, bottom):
        told = lean(house, weights, top, bottom)
        self.assertEqual(told, hull(left_with_least(house, weights, Fraction(top, bottom))))
        self.assertTrue(is_plain(told) and type(told) is tuple)
        return told

    def test_at_each_fraction_and_a_little_beside_it(self):
        for house, weights, (steps, mixture) in CASES[::2]:
            ahead = 0
            for top, bottom, number in steps:
                self.assertEqual(self.check(house, weights, top, bottom), (ahead, number))
                far = 10 ** 9
                # A step's fraction has a bottom of at most the weights of all, so that no other is so near.
                self.assertEqual(self.check(house, weights, top * far - 1, bottom * far), (ahead, ahead))
                self.assertEqual(self.check(house, weights, top * far + 1, bottom * far), (number, number))
                ahead = number

    def test_both_numbers_so_many_times_as_great(self):
        for house, weights, (steps, mixture) in CASES[::2]:
            for top, bottom, number in steps:
                expected = lean(house, weights, top, bottom)
                for factor in (2, 7, 1000, 10 ** 12, FARTHEST // max(abs(top), bottom)):
                    if max(abs(top), bottom) * factor <= FARTHEST:
                        self.assertEqual(lean(house, weights, top * factor, bottom * factor), expected)
                        self.check(house, weights, top * factor, bottom * factor)

    def test_the_farthest_prices(self):
        for house, weights, (steps, mixture) in CASES:
            every = 2 ** house[0] - 1
            self.assertEqual(self.check(house, weights, -FARTHEST, 1), (0, 0))
            self.assertEqual(self.check(house, weights, FARTHEST, 1), (every, every))
            for top, bottom in itertools.product((-FARTHEST, -1, 0, 1, FARTHEST), (1, 2, FARTHEST - 1, FARTHEST)):
                self.check(house, weights, top, bottom)

    def test_drawn_prices(self):
        dice = random.Random(82)
        for house, weights, told in CASES[::3]:
            for turn in range(4):
                self.check(house, weights, dice.randint(-20, 20), dice.randint(1, 12))

    def test_with_a_common_divisor(self):
        house = (2, (0, 3, 4, 5))
        self.assertEqual(lean(house, (1, 1), 5, 2), (0, 3))
        self.assertEqual(lean(house, (1, 1), 10, 4), (0, 3))
        self.assertEqual(lean(house, (1, 9), 8, 18), (0, 2))
        self.assertEqual(lean(house, (1, 9), 9, 9), (2, 3))
        self.assertEqual(lean(noughts(3), (1, 2, 3), 0, 12), (0, 7))


class LevellestTest(unittest.TestCase):
    def test_it_is_the_row_of_the_steps(self):
        for house, weights, (steps, mixture) in CASES:
            told = levellest(house, weights)
            self.assertIs(is_row(house[0], told), True)
            self.assertEqual(math.gcd(told[1], *told[0]), 1)
            self.assertTrue(is_plain(told))
            for thing, price in enumerate(prices_of(told)):
                first = [step for step in steps if step[2] & 2 ** thing][0]
                self.assertEqual(price, weights[thing] * Fraction(first[0], first[1]))
            self.assertEqual(row_by_words(house, mixture), told)
            self.assertEqual(levellest(house, weights), told)

    def test_it_is_full(self):
        for house, weights, told in CASES:
            row = levellest(house, weights)
            self.assertIs(is_full(house, row), True)
            prices = prices_of(row)
            if house[0] <= 5:
                self.assertTrue(all(cost(prices, number) <= worth for number, worth in enumerate(house[1])))
                self.assertEqual(sum(prices), house[1][-1])

    def compare(self, weights, best, other):
        slope = sum(x * (y - x) / weight for x, y, weight in zip(best, other, weights))
        self.assertGreaterEqual(slope, 0)
        if tuple(other) != tuple(best):
            self.assertGreater(level(other, weights), level(best, weights))

    def test_no_other_full_row_is_as_level(self):
        dice = random.Random(83)
        for house, weights, told in CASES:
            best = tuple(prices_of(levellest(house, weights)))
            for other in full_rows(house, dice):
                self.compare(weights, best, other)
                near = [x + (y - x) / 10 ** 6 for x, y in zip(best, other)]
                self.compare(weights, best, near)

    def test_rows_a_little_beside_it(self):
        seen = 0
        for house, weights, told in CASES:
            if house[0] > 5:
                continue
            best = tuple(prices_of(levellest(house, weights)))
            for one, other in itertools.permutations(range(house[0]), 2):
                for more in (Fraction(1, 10 ** 6), Fraction(1, 2)):
                    prices = changed(changed(best, one, best[one] + more), other, best[other] - more)
                    if is_full(house, row_with(prices)):
                        seen += 1
                        self.compare(weights, best, prices)
        self.assertGreater(seen, 100)

    def test_weights_all_the_same(self):
        for house in houses_to_eight() + ten_of_pieces() + ten_houses():
            told = levellest(house, (1,) * house[0])
            for weight in (2, 3, 999, 1000):
                self.assertEqual(levellest(house, (weight,) * house[0]), told)

    def test_weights_so_many_times_as_great(self):
        for house in houses_to_eight():
            weights = weights_for(house[0])[3]
            told = levellest(house, weights)
            for factor in (2, 5, 333):
                self.assertEqual(levellest(house, tuple(weight * factor for weight in weights)), told)

    def test_named_rows(self):
        house = (2, (0, 3, 4, 5))
        self.assertEqual(levellest(house, (1, 1)), ((5, 5), 2))
        self.assertEqual(levellest(house, (2, 3)), ((2, 3), 1))
        self.assertEqual(levellest(house, (1, 9)), ((1, 4), 1))
        self.assertEqual(levellest(house, (9, 1)), ((3, 2), 1))
        self.assertEqual(levellest(covered(3, (7,)), (1, 1, 1)), ((1, 1, 1), 3))
        self.assertEqual(levellest(covered(3, (7,)), (1, 2, 3)), ((1, 2, 3), 6))
        self.assertEqual(levellest(noughts(3), (1, 2, 3)), ((0, 0, 0), 1))
        self.assertEqual(levellest(joined(covered(2, (3,)), summed(2, (0, 5))), (1, 1)), ((1, 5), 1))


if __name__ == "__main__":
    unittest.main()
