"""Orders: points 10 and 11."""

import copy
import itertools
import unittest

from examples import BOUND, FAR, cost, covered, joined, nested, no_numbers, some_houses, summed
from fallgain.orders import best_order, is_order, order_row, stretched

WISHES = (-BOUND, -2, 0, 1, 1, BOUND)


def orders_of(many):
    return list(itertools.permutations(range(many)))


def come_to(wishes, prices):
    return sum(wish * price for wish, price in zip(wishes, prices))


class IsOrderTest(unittest.TestCase):
    def is_none(self, many, thing):
        before = copy.deepcopy(thing)
        self.assertIs(is_order(many, thing), False, (many, thing))
        self.assertEqual(thing, before)

    def test_orders(self):
        for many in range(1, 6):
            for order in orders_of(many):
                self.assertIs(is_order(many, order), True)
        self.assertIs(is_order(10, (9, 0, 8, 1, 7, 2, 6, 3, 5, 4)), True)

    def test_every_tuple_of_numbers(self):
        for many in range(1, 4):
            for size in range(5):
                for things in itertools.product(range(-1, many + 1), repeat=size):
                    self.assertIs(is_order(many, things), things in orders_of(many))

    def test_truths_are_no_things(self):
        self.is_none(1, (False,))
        self.is_none(2, (True, 0))
        self.is_none(2, (0, True))
        self.is_none(3, (2, 1, False))

    def test_no_things_inside(self):
        for value in [*no_numbers(), FAR, -FAR, nested(27)]:
            for at in range(3):
                things = [0, 1, 2]
                things[at] = value
                self.is_none(3, tuple(things))

    def test_no_tuple(self):
        for value in [[0, 1, 2], {0: 0, 1: 1, 2: 2}, "012", 3, FAR, *no_numbers(), nested(29), tuple(range(20000))]:
            self.is_none(3, value)
        self.is_none(1, [0])
        self.is_none(1, 0)

    def test_an_order_of_another_many(self):
        for many in range(1, 11):
            for size in range(1, 11):
                self.assertIs(is_order(many, tuple(range(size))), many == size)


class OrderRowTest(unittest.TestCase):
    def test_named_row(self):
        house = (2, (0, 3, 4, 5))
        self.assertEqual(order_row(house, (0, 1)), (3, 2))
        self.assertEqual(order_row(house, (1, 0)), (1, 4))

    def test_each_price_is_the_gain_to_the_things_ahead(self):
        for house in some_houses():
            many, worths = house
            for order in orders_of(many):
                prices = order_row(house, order)
                self.assertIs(type(prices), tuple)
                self.assertEqual(len(prices), many)
                ahead = 0
                for thing in order:
                    self.assertEqual(prices[thing], worths[ahead + 2 ** thing] - worths[ahead])
                    ahead += 2 ** thing

    def test_all_come_to_the_worth_of_all_and_no_set_costs_more(self):
        for house in some_houses():
            many, worths = house
            for order in orders_of(many):
                prices = order_row(house, order)
                self.assertEqual(sum(prices), worths[-1])
                for number in range(2 ** many):
                    self.assertLessEqual(cost(prices, number), worths[number])

    def test_of_ten_things(self):
        house = joined(covered(10, (3, 6, 1023)), summed(10, tuple(range(10))))
        order = tuple(range(9, -1, -1))
        prices = order_row(house, order)
        self.assertEqual(prices, (0, 2, 3, 3, 4, 5, 6, 7, 8, 10))
        self.assertEqual(order, tuple(range(9, -1, -1)))
        self.assertEqual(order_row(house, order), prices)


class BestOrderTest(unittest.TestCase):
    def test_named_orders(self):
        house = summed(4, (0, 0, 0, 0))
        self.assertEqual(best_order(house, (5, 5, 5, 5)), (0, 1, 2, 3))
        self.assertEqual(best_order(house, (1, 2, 3, 4)), (3, 2, 1, 0))
        self.assertEqual(best_order(house, (0, 7, 0, 7)), (1, 3, 0, 2))
        self.assertEqual(best_order(house, (-BOUND, BOUND, -BOUND, BOUND)), (1, 3, 0, 2))
        self.assertEqual(best_order((1, (0, 5)), (-3,)), (0,))

    def test_wishes_fall_and_alike_ones_rise(self):
        house = summed(4, (3, 1, -1, 2))
        for wishes in itertools.product(WISHES, repeat=4):
            order = best_order(house, wishes)
            self.assertIs(is_order(4, order), True)
            for one, other in zip(order, order[1:]):
                self.assertTrue(wishes[one] > wishes[other] or wishes[one] == wishes[other] and one < other)

    def test_of_ten_things(self):
        house = summed(10, (0,) * 10)
        wishes = (1, 0, 1, 0, 1, 0, 1, 0, 1, 0)
        self.assertEqual(best_order(house, wishes), (0, 2, 4, 6, 8, 1, 3, 5, 7, 9))
        self.assertEqual(wishes, (1, 0) * 5)


class StretchedTest(unittest.TestCase):
    def test_no_order_comes_to_more(self):
        for house in some_houses():
            many = house[0]
            rows = [order_row(house, order) for order in orders_of(many)]
            choices = WISHES if many < 4 else (-3, 0, 5)
            for wishes in itertools.product(choices, repeat=many):
                told = stretched(house, wishes)
                self.assertEqual(told, max(come_to(wishes, prices) for prices in rows))
                self.assertEqual(told, come_to(wishes, order_row(house, best_order(house, wishes))))

    def test_of_a_set_it_is_its_worth(self):
        for house in [*some_houses(), covered(10, (3, 96, 1023, 512))]:
            many, worths = house
            for number in range(2 ** many):
                wishes = tuple(number >> thing & 1 for thing in range(many))
                self.assertEqual(stretched(house, wishes), worths[number])

    def test_wishes_all_alike(self):
        for house in some_houses():
            for wish in (-BOUND, -1, 0, 1, BOUND):
                self.assertEqual(stretched(house, (wish,) * house[0]), wish * house[1][-1])


if __name__ == "__main__":
    unittest.main()
