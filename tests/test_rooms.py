"""Room for an exchange: point 27."""

import copy
import itertools
import random
import unittest
from fractions import Fraction

from examples import (EDGE, FAR, changed, cost, counted, covered, drawn_orders, edge_houses, full_rows, gains_along,
                      is_full_by_words, is_plain, joined, nested, no_numbers, passing_row, prices_of, row_by_words,
                      row_with, seven_houses, some_houses, summed, ten_houses)
from fallgain.below import passed
from fallgain.errors import NoThing, NotFull, Passes
from fallgain.rooms import room
from fallgain.steps import levellest


def room_by_words(house, row, one, other):
    """The least, over all sets that have the one and not the other, of the worth less the price."""
    prices = prices_of(row)
    having = [number for number in range(2 ** house[0]) if number & 2 ** one and not number & 2 ** other]
    return min(house[1][number] - cost(prices, number) for number in having)


def exchanged(prices, one, other, amount):
    """The prices behind an exchange."""
    moved = list(prices)
    moved[one] += amount
    moved[other] -= amount
    return moved


class RoomCase(unittest.TestCase):
    def compare(self, house, row):
        """Ask of all pairs; tell how many rooms are above 0."""
        above = 0
        for one, other in itertools.permutations(range(house[0]), 2):
            told = room(house, row, one, other)
            due = room_by_words(house, row, one, other)
            self.assertTrue(is_plain(told))
            self.assertEqual(told, (due.numerator, due.denominator))
            self.assertEqual(room(house, row, one, other), told)
            self.assertGreaterEqual(told[0], 0)
            above += told[0] > 0
        return above

    def refused(self, house, row, one, other, error):
        with self.assertRaises(error) as caught:
            room(house, row, one, other)
        return caught.exception


class RoomTest(RoomCase):
    def test_full_rows_of_small_houses(self):
        dice = random.Random(501)
        above = broken = 0
        for house in some_houses() + edge_houses():
            if house[0] > 1:
                for row in full_rows(dice, house, 3):
                    above += self.compare(house, row)
                    broken += row[1] > 1
        self.assertGreater(above, 100)
        self.assertGreater(broken, 20)

    def test_the_levellest_row(self):
        for house in some_houses():
            for weights in ((1,) * house[0], tuple(range(1, house[0] + 1))):
                self.compare(house, levellest(house, weights))

    def test_behind_an_exchange_by_it_and_by_a_little_more(self):
        dice = random.Random(502)
        for house in some_houses():
            for row in full_rows(dice, house, 1):
                for one, other in itertools.permutations(range(house[0]), 2):
                    amount = Fraction(*room(house, row, one, other))
                    prices = prices_of(row)
                    self.assertTrue(is_full_by_words(house, exchanged(prices, one, other, amount)))
                    more = exchanged(prices, one, other, amount + Fraction(1, 10 ** 9))
                    self.assertFalse(is_full_by_words(house, more))

    def test_known_ones(self):
        house = (2, (0, 3, 4, 5))
        self.assertEqual(room(house, ((3, 7), 2), 0, 1), (3, 2))
        self.assertEqual(room(house, ((3, 7), 2), 1, 0), (1, 2))
        self.assertEqual(room(house, ((3, 2), 1), 0, 1), (0, 1))
        self.assertEqual(room(house, ((3, 2), 1), 1, 0), (2, 1))
        self.assertEqual(room(summed(2, (4, 9)), ((4, 9), 1), 1, 0), (0, 1))

    def test_neighbours_in_an_order(self):
        dice = random.Random(503)
        for house in some_houses()[6:]:
            order = drawn_orders(dice, house[0], 1)[0]
            row = (gains_along(house, order), 1)
            for at in range(house[0] - 1):
                one, other = order[at + 1], order[at]
                ahead = sum(2 ** thing for thing in order[:at])
                both = house[1][ahead | 2 ** one | 2 ** other]
                alone = house[1][ahead | 2 ** one] + house[1][ahead | 2 ** other]
                self.assertEqual(room(house, row, one, other), (alone - both - house[1][ahead], 1))

    def test_seven_and_ten_things(self):
        dice = random.Random(504)
        for house in seven_houses():
            for row in full_rows(dice, house, 1):
                self.compare(house, row)
        row = row_by_words(ten_houses()[1], ((2, tuple(range(10))), (1, tuple(range(9, -1, -1)))))
        self.compare(ten_houses()[1], row)

    def test_at_the_bound(self):
        house = (2, (0, EDGE, EDGE, -EDGE))
        self.assertEqual(room(house, ((EDGE, -2 * EDGE), 1), 1, 0), (3 * EDGE, 1))
        self.assertEqual(room(house, ((-EDGE // 2, -EDGE // 2), 1), 0, 1), (3 * EDGE // 2, 1))

    def test_nothing_handed_in_is_changed(self):
        house, row = counted(3, (5, 2, 0)), ((7, 7, 7), 3)
        before = copy.deepcopy((house, row))
        room(house, row, 2, 0)
        self.assertEqual((house, row), before)


class RefusedTest(RoomCase):
    def things(self, many):
        return [many, many + 1, -1, -many, 10, 63, FAR, -FAR, *no_numbers(), nested(29), "0", (0,), [0]]

    def test_no_thing(self):
        dice = random.Random(505)
        for house in some_houses() + edge_houses():
            row = full_rows(dice, house, 1)[1]
            for value in self.things(house[0]):
                for one, other in ((0, value), (value, 0), (value, value), (house[0] - 1, value)):
                    self.refused(house, row, one, other, NoThing)

    def test_both_one(self):
        dice = random.Random(506)
        for house in some_houses():
            row = full_rows(dice, house, 1)[0]
            for thing in range(house[0]):
                self.refused(house, row, thing, thing, NoThing)

    def test_truths_are_no_things(self):
        house, row = (2, (0, 3, 4, 5)), ((3, 7), 2)
        for one, other in ((0, True), (True, 0), (False, 1), (1, False), (False, True)):
            self.refused(house, row, one, other, NoThing)

    def test_passes_whatever_the_things_are(self):
        for house in some_houses():
            row, where = passing_row(house)
            for one, other in ((0, house[0] - 1), (0, 0), (0, house[0]), (None, 0), (True, []), ("x", -FAR)):
                self.assertEqual(self.refused(house, row, one, other, Passes).where, where)
            self.assertEqual(passed(house, row), where)

    def test_passes_ahead_of_not_full(self):
        house = (2, (0, 3, 4, 5))
        # The one passes a set, though all things cost less than their worth.
        self.assertEqual(self.refused(house, ((4, -9), 1), 0, 1, Passes).where, 1)
        self.assertEqual(self.refused(house, ((-9, 9), 2), 0, 1, Passes).where, 2)
        self.assertEqual(self.refused(house, ((3, 3), 1), 0, 1, Passes).where, 3)

    def test_not_full_whatever_the_things_are(self):
        dice = random.Random(507)
        for house in some_houses():
            for row in full_rows(dice, house, 1):
                prices = prices_of(row)
                for less in (1, Fraction(1, 7), 1000):
                    low = row_with(changed(tuple(prices), 0, prices[0] - less))
                    for one, other in ((0, house[0] - 1), (0, 0), (0, house[0]), (None, 0), (True, [])):
                        self.refused(house, low, one, other, NotFull)

    def test_of_one_thing_no_two_can_be_named(self):
        for one, other in ((0, 0), (0, 1), (1, 0), (-1, 0)):
            self.refused((1, (0, 7)), ((7,), 1), one, other, NoThing)
        self.assertEqual(self.refused((1, (0, 7)), ((8,), 1), 0, 0, Passes).where, 1)
        self.refused((1, (0, 7)), ((6,), 1), 0, 0, NotFull)

    def test_ten_things(self):
        house = joined(covered(10, (3, 640)), summed(10, tuple(range(10))))
        row = (gains_along(house, tuple(range(10))), 1)
        self.assertEqual(room(house, row, 9, 0), (0, 1))
        self.refused(house, row, 9, 10, NoThing)
        self.refused(house, row, 10, 9, NoThing)


if __name__ == "__main__":
    unittest.main()
