"""Papers for least sets: point 17, and what point 3 says of them."""

import copy
import itertools
import random
import unittest

from examples import (FAR, changed, drawn_mixture, edge_houses, houses_with_several, least_by_all, nested, no_numbers,
                      prices_of, some_houses, ten_houses)
from fallgain.least import least
from fallgain.leastpaper import right_least
from fallgain.mixtures import mixture_row


def by_words(house, number, mixture):
    """Whether the prices below 0 come together to the set's worth."""
    prices = prices_of(mixture_row(house, mixture))
    return sum(price for price in prices if price < 0) == house[1][number]


class RightLeastTest(unittest.TestCase):
    def is_none(self, house, thing):
        before = copy.deepcopy(thing)
        self.assertIs(right_least(house, thing), False, (house, thing))
        self.assertEqual(thing, before)

    def houses(self):
        return some_houses() + houses_with_several() + edge_houses()

    def test_what_least_tells_and_every_other_set(self):
        for house in self.houses() + ten_houses():
            members, mixture = least(house)
            self.assertIs(right_least(house, (members, mixture)), True)
            some = least_by_all(house)
            for number in range(2 ** house[0]):
                self.assertIs(right_least(house, (number, mixture)), number in some)

    def test_drawn_mixtures_with_each_set(self):
        dice = random.Random(31)
        seen = {True: 0, False: 0}
        for house in self.houses():
            for size, greatest in itertools.product((1, 2, 5), (1, 6, 10 ** 18)):
                mixture = drawn_mixture(dice, house[0], size, greatest)
                for number in range(2 ** house[0]):
                    told = right_least(house, (number, mixture))
                    self.assertIs(told, by_words(house, number, mixture))
                    self.assertIs(right_least(house, (number, mixture)), told)
                    seen[told] += 1
                    if told:
                        self.assertEqual(house[1][number], min(house[1]))
        self.assertGreater(min(seen.values()), 50)

    def test_all_mixtures_of_two_orders(self):
        house = (3, (0, -2, 3, 1, 2, -1, 4, 1))
        orders = list(itertools.permutations(range(3)))
        for one, other in itertools.product(orders, repeat=2):
            for number in range(8):
                mixture = ((2, one), (3, other))
                self.assertIs(right_least(house, (number, mixture)), by_words(house, number, mixture))

    def test_a_worth_that_is_least_and_a_mixture_that_does_not_show_it(self):
        house = (2, (0, 5, 5, 0))
        self.is_none(house, (0, ((1, (0, 1)),)))
        self.is_none(house, (3, ((1, (1, 0)),)))
        self.is_none(house, (0, ((2, (0, 1)), (10 ** 18, (1, 0)))))
        self.assertIs(right_least(house, (0, ((7, (0, 1)), (7, (1, 0))))), True)
        self.assertIs(right_least(house, (3, ((7, (0, 1)), (7, (1, 0))))), True)

    def test_no_sets(self):
        for house in self.houses():
            mixture = least(house)[1]
            beyond = 2 ** house[0]
            for value in [beyond, beyond + 1, -1, -beyond, FAR, -FAR, *no_numbers()]:
                self.is_none(house, (value, mixture))

    def test_truths_for_sets(self):
        self.assertIs(right_least((1, (0, -7)), (1, ((1, (0,)),))), True)
        self.is_none((1, (0, -7)), (True, ((1, (0,)),)))
        self.assertIs(right_least((1, (0, 7)), (0, ((1, (0,)),))), True)
        self.is_none((1, (0, 7)), (False, ((1, (0,)),)))

    def test_mixtures_that_are_none(self):
        for house in self.houses():
            members, mixture = least(house)
            count, order = mixture[0]
            for pair in ((0, order), (-count, order), (True, order), (None, order), (count, list(order)), [count, order],
                         (count, order + (house[0],)), (count, order[:-1]), (count, order, 0), (count,), (str(count), order),
                         (count, order[:-1] + (True,)), (count, order[:-1] + (-1,)), (count, order[:-1] + (house[0],))):
                self.is_none(house, (members, changed(mixture, 0, pair)))
                self.is_none(house, (members, mixture + (pair,)))
            for value in (list(mixture), (), mixture[0], {0: mixture[0]}, (mixture,), *no_numbers()):
                self.is_none(house, (members, value))

    def test_parts_more_or_fewer(self):
        for house in self.houses():
            members, mixture = paper = least(house)
            for value in (list(paper), paper + (0,), paper + (None,), paper[:1], paper[1:], (mixture, members), (paper,),
                          {members: mixture}, (members, members), (mixture, mixture), (None, None)):
                self.is_none(house, value)

    def test_anything(self):
        for house in (some_houses()[0], some_houses()[-1], ten_houses()[0]):
            for value in [0, 1, FAR, -FAR, *no_numbers(), nested(29), "x" * 100000, tuple(range(20000)), ((), ()), ([], {}),
                          (0, nested(28)), (0, tuple(range(19000))), (0, ((1, nested(26)),))]:
                self.is_none(house, value)

    def test_great_counts_and_many_pairs(self):
        house = ten_houses()[1]
        members, mixture = least(house)
        greater = tuple((count * (10 ** 40 + 7), order) for count, order in mixture)
        self.assertIs(right_least(house, (members, greater)), True)
        self.assertIs(right_least(house, (members, mixture * 100)), True)
        self.is_none(house, (members ^ 1, mixture * 100))
        other = greater + ((10 ** 50, tuple(range(9, -1, -1))),)
        self.assertIs(by_words(house, members, other), False)
        self.is_none(house, (members, other))


if __name__ == "__main__":
    unittest.main()
