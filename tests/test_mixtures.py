"""Mixtures: point 15, and what point 3 says of their rows."""

import copy
import itertools
import random
import unittest
from fractions import Fraction

from examples import FAR, changed, covered, joined, nested, no_numbers, prices_of, row_with, some_houses, summed
from fallgain.below import is_full
from fallgain.mixtures import is_mixture, mixture_row
from fallgain.orders import order_row, stretched
from fallgain.rows import is_row

SIXTY = 10 ** 60 - 1
ORDERS = tuple(itertools.permutations(range(3)))


def expected_row(house, mixture):
    """The row by the words of the document."""
    prices = [Fraction(0)] * house[0]
    together = sum(count for count, order in mixture)
    for count, order in mixture:
        told = order_row(house, order)
        prices = [price + Fraction(count * more, together) for price, more in zip(prices, told)]
    return row_with(prices)


def some_mixtures(many):
    dice = random.Random(many)
    for size in (1, 2, 3, 7):
        for greatest in (1, 4, 10 ** 18, SIXTY):
            pairs = []
            for turn in range(size):
                order = list(range(many))
                dice.shuffle(order)
                pairs.append((dice.randint(1, greatest), tuple(order)))
            yield tuple(pairs)


class IsMixtureTest(unittest.TestCase):
    def is_one(self, many, thing):
        self.assertIs(is_mixture(many, thing), True)

    def is_none(self, many, thing):
        before = copy.deepcopy(thing)
        self.assertIs(is_mixture(many, thing), False)
        self.assertEqual(thing, before)

    def test_mixtures(self):
        for many in range(1, 11):
            for mixture in some_mixtures(many):
                self.is_one(many, mixture)
                self.is_one(many, mixture)

    def test_counts(self):
        for count in (1, 2, 10 ** 18, SIXTY, 10 ** 400):
            self.is_one(3, ((count, (0, 1, 2)),))
            self.is_one(3, ((1, (2, 1, 0)), (count, (0, 1, 2))))
        for count in [0, -1, -SIXTY, *no_numbers()]:
            self.is_none(3, ((count, (0, 1, 2)),))
            self.is_none(3, ((1, (2, 1, 0)), (count, (0, 1, 2))))
            self.is_none(3, ((count, (0, 1, 2)), (1, (2, 1, 0))))

    def test_orders(self):
        for order in [(0, 1), (0, 1, 2, 3), (0, 1, 1), (1, 2, 3), (0, -1, 2), (0, True, 2), (0, None, 2), [0, 1, 2],
                      (), 0, 3, FAR, "012", *no_numbers(), nested(27)]:
            self.is_none(3, ((1, order),))
            self.is_none(3, ((1, (0, 1, 2)), (1, order)))
            self.is_none(3, ((1, order), (1, (0, 1, 2))))

    def test_another_many(self):
        for many in range(1, 11):
            for size in range(1, 11):
                self.assertIs(is_mixture(many, ((1, tuple(range(size))),)), many == size)

    def test_no_pairs(self):
        self.is_none(3, ())
        self.is_none(3, ((),))

    def test_a_pair_with_a_part_more_or_less(self):
        right = (1, (0, 1, 2))
        for pair in ((1,), ((0, 1, 2),), (1, (0, 1, 2), 1), (1, (0, 1, 2), ()), ((0, 1, 2), 1)):
            self.is_none(3, (pair,))
            self.is_none(3, (right, pair))
            self.is_none(3, (pair, right))
        self.is_none(3, right)

    def test_lists(self):
        self.is_none(3, [(1, (0, 1, 2))])
        self.is_none(3, ([1, (0, 1, 2)],))
        self.is_none(3, ((1, [0, 1, 2]),))
        self.is_none(3, ((1, (0, 1, 2)), [1, (0, 1, 2)]))
        self.is_none(3, {0: (1, (0, 1, 2))})

    def test_one_order_in_several_pairs(self):
        self.is_one(3, ((1, (0, 1, 2)), (5, (0, 1, 2)), (1, (0, 1, 2))))

    def test_many_more_than_a_thousand_pairs(self):
        pairs = ((2, (0, 1, 2)), (3, (2, 1, 0))) * 1500
        self.is_one(3, pairs)
        for at in (0, 1000, 2999):
            self.is_none(3, changed(pairs, at, (0, (0, 1, 2))))

    def test_no_mixture_at_all(self):
        for value in [0, 1, FAR, *no_numbers(), nested(29), "x" * 100000, tuple(range(20000))]:
            for many in range(1, 11):
                self.is_none(many, value)


class MixtureRowTest(unittest.TestCase):
    def test_named_rows(self):
        house = (2, (0, 3, 4, 5))
        self.assertEqual(mixture_row(house, ((1, (0, 1)), (1, (1, 0)))), ((2, 3), 1))
        self.assertEqual(mixture_row(house, ((1, (0, 1)), (3, (1, 0)))), ((3, 7), 2))
        self.assertEqual(mixture_row(house, ((1, (0, 1)), (2, (1, 0)))), ((5, 10), 3))

    def test_by_the_words_of_the_document(self):
        for house in some_houses():
            for mixture in some_mixtures(house[0]):
                told = mixture_row(house, mixture)
                self.assertEqual(told, expected_row(house, mixture))
                self.assertEqual(told, mixture_row(house, mixture))
                self.assertIs(is_row(house[0], told), True)

    def test_it_is_full(self):
        for house in some_houses():
            for mixture in some_mixtures(house[0]):
                self.assertIs(is_full(house, mixture_row(house, mixture)), True)

    def test_by_it_wishes_come_to_no_more(self):
        dice = random.Random(8)
        for house in some_houses():
            for mixture in some_mixtures(house[0]):
                prices = prices_of(mixture_row(house, mixture))
                wishes = tuple(dice.randint(-10 ** 9, 10 ** 9) for price in prices)
                self.assertLessEqual(sum(w * p for w, p in zip(wishes, prices)), stretched(house, wishes))

    def test_the_pairs_in_another_order(self):
        house = joined(covered(3, (3, 6, 5)), summed(3, (1, -4, 2)))
        pairs = ((1, ORDERS[0]), (5, ORDERS[3]), (2, ORDERS[5]), (2, ORDERS[0]))
        told = {mixture_row(house, mixture) for mixture in itertools.permutations(pairs)}
        self.assertEqual(told, {expected_row(house, pairs)})

    def test_counts_so_many_times_as_great(self):
        for house in some_houses():
            for mixture in some_mixtures(house[0]):
                for factor in (2, 3, 10 ** 18):
                    greater = tuple((count * factor, order) for count, order in mixture)
                    self.assertEqual(mixture_row(house, greater), mixture_row(house, mixture))

    def test_an_order_in_several_pairs(self):
        house = covered(3, (3, 6, 1))
        parts = ((1, ORDERS[1]), (4, ORDERS[4]), (2, ORDERS[1]))
        self.assertEqual(mixture_row(house, parts), mixture_row(house, ((3, ORDERS[1]), (4, ORDERS[4]))))

    def test_one_pair_alone(self):
        for house in some_houses():
            for order in itertools.permutations(range(house[0])):
                for count in (1, 6, SIXTY):
                    self.assertEqual(mixture_row(house, ((count, order),)), (order_row(house, order), 1))

    def test_noughts(self):
        house = summed(3, (0, 0, 0))
        self.assertEqual(mixture_row(house, ((3, ORDERS[0]), (4, ORDERS[1]))), ((0, 0, 0), 1))

    def test_many_pairs_of_ten_things(self):
        house = joined(covered(10, (3, 6, 1023, 640)), summed(10, tuple(range(-5, 5))))
        rise = tuple(range(10))
        mixture = ((10 ** 18, rise), (1, rise[::-1])) * 600
        told = mixture_row(house, mixture)
        self.assertEqual(told, mixture_row(house, mixture[:2]))
        self.assertIs(is_full(house, told), True)
        self.assertEqual(mixture, ((10 ** 18, rise), (1, rise[::-1])) * 600)


if __name__ == "__main__":
    unittest.main()
