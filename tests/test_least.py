"""Least sets: points 17 and 20."""

import itertools
import random
import unittest

from examples import (FAR, beginnings, drawn_orders, edge_houses, gains_along, houses_with_several, least_by_all,
                      no_numbers, paid, prices_of, some_houses, ten_houses, within)
from fallgain.errors import NoSet
from fallgain.least import least, least_within
from fallgain.leastpaper import right_least
from fallgain.mixtures import is_mixture, mixture_row


class LeastTest(unittest.TestCase):
    def check(self, house):
        told = least(house)
        members, mixture = told
        self.assertIs(type(told), tuple)
        self.assertIs(type(members), int)
        self.assertEqual(members, least_by_all(house)[0])
        self.assertIs(is_mixture(house[0], mixture), True)
        prices = prices_of(mixture_row(house, mixture))
        self.assertEqual(sum(min(0, price) for price in prices), min(house[1]))
        self.assertIs(right_least(house, told), True)
        self.assertEqual(least(house), told)

    def test_houses(self):
        for house in some_houses() + ten_houses():
            self.check(house)

    def test_several_least_sets(self):
        for house in houses_with_several():
            self.assertGreater(len(least_by_all(house)), 1)
            self.check(house)

    def test_each_thing_priced_at_what_it_adds(self):
        dice = random.Random(21)
        for house in ten_houses():
            for order in drawn_orders(dice, 10, 3):
                dearer = paid(house, gains_along(house, order))
                self.assertTrue(set(beginnings(order)) <= set(least_by_all(dearer)))
                self.assertEqual(least(dearer)[0], 0)
                self.check(dearer)
                # With the first thing cheaper by 2, no things are a least set no more.
                cheaper = paid(dearer, [2 if thing == order[0] else 0 for thing in range(10)])
                self.assertGreater(least(cheaper)[0], 0)
                self.check(cheaper)

    def test_worths_at_the_bound(self):
        for house in edge_houses():
            self.check(house)

    def test_drawn_prices(self):
        dice = random.Random(22)
        for house in some_houses() + ten_houses():
            if abs(house[1][-1]) < 10 ** 9:
                for turn in range(6):
                    self.check(paid(house, [dice.randint(-6, 6) for thing in range(house[0])]))

    def test_named_papers(self):
        self.assertEqual(least((1, (0, 0)))[0], 0)
        self.assertEqual(least((1, (0, -7)))[0], 1)
        self.assertEqual(least((2, (0, 5, 5, -20)))[0], 3)
        self.assertEqual(least((2, (0, 1, -1, -1)))[0], 2)
        self.assertEqual(least((2, (0, -1, 1, -1)))[0], 1)


class LeastWithinTest(unittest.TestCase):
    def check(self, house, has, lacks):
        some = [number for number in range(2 ** house[0]) if within(has, number) and number & lacks == 0]
        fewest = min(house[1][number] for number in some)
        first = [number for number in some if house[1][number] == fewest][0]
        told = least_within(house, has, lacks)
        self.assertEqual(told, (fewest, first))
        self.assertEqual([type(part) for part in told], [int, int])

    def test_all_pairs_of_sets(self):
        for house in some_houses() + houses_with_several() + edge_houses():
            if house[0] <= 4:
                for has, lacks in itertools.product(range(2 ** house[0]), repeat=2):
                    if has & lacks == 0:
                        self.check(house, has, lacks)

    def test_some_of_ten_things(self):
        dice = random.Random(23)
        for house in ten_houses() + [paid(house, gains_along(house, tuple(range(10)))) for house in ten_houses()]:
            self.check(house, 0, 0)
            self.check(house, 1023, 0)
            self.check(house, 0, 1023)
            for turn in range(30):
                has = dice.randint(0, 1023) & dice.randint(0, 1023)
                self.check(house, has, dice.randint(0, 1023) & ~has)

    def test_a_thing_in_common(self):
        for house in some_houses():
            for has, lacks in itertools.product(range(2 ** house[0]), repeat=2):
                if has & lacks:
                    with self.assertRaises(NoSet):
                        least_within(house, has, lacks)

    def test_no_sets(self):
        for house in (some_houses()[0], some_houses()[-1], ten_houses()[0]):
            beyond = 2 ** house[0]
            wrong = [beyond, beyond + 1, beyond * 2, -1, -beyond, FAR, -FAR, *no_numbers()]
            for value in wrong:
                for has, lacks in ((value, 0), (0, value), (value, 1), (1, value), (value, value)):
                    with self.assertRaises(NoSet):
                        least_within(house, has, lacks)
                with self.assertRaises(NoSet):
                    least_within(house, value, wrong[0])

    def test_named_pairs(self):
        house = (2, (0, 3, 4, 5))
        self.assertEqual(least_within(house, 0, 0), (0, 0))
        self.assertEqual(least_within(house, 1, 0), (3, 1))
        self.assertEqual(least_within(house, 2, 1), (4, 2))


if __name__ == "__main__":
    unittest.main()
