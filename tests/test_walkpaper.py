"""Walks from a full row to another one: the checker of point 28, and what point 3 says of walks."""

import copy
import itertools
import random
import unittest
from fractions import Fraction

from examples import (EDGE, FAR, changed, cost, counted, drawn_house, full_rows, gains_along, is_full_by_words, nested,
                      no_numbers, passing_row, prices_of, row_with, some_houses, ten_houses)
from fallgain.errors import NotFull, Passes
from fallgain.walkpaper import right_walk


def fraction(amount):
    return (amount.numerator, amount.denominator)


def right_by_words(house, row, other, exchanges):
    """Whether exchanges of the right kinds are a walk, by the words of the document and all sets."""
    prices, there = prices_of(row), prices_of(other)
    for up, down, (top, bottom) in exchanges:
        amount = Fraction(top, bottom)
        if not prices[up] < there[up] or not prices[down] > there[down]:
            return False
        prices[up] += amount
        prices[down] -= amount
        if prices[up] > there[up] or prices[down] < there[down] or not is_full_by_words(house, prices):
            return False
    return prices == there


def walk_by_words(house, row, other, things=None):
    """A walk as the document describes one, the things gone through in this order."""
    prices, there = prices_of(row), prices_of(other)
    exchanges = []
    things = range(house[0]) if things is None else things
    for up in things:
        for down in things:
            if prices[up] < there[up] and prices[down] > there[down]:
                having = [number for number in range(2 ** house[0]) if number & 2 ** up and not number & 2 ** down]
                free = min(house[1][number] - cost(prices, number) for number in having)
                amount = min(free, there[up] - prices[up], prices[down] - there[down])
                if amount > 0:
                    prices[up] += amount
                    prices[down] -= amount
                    exchanges.append((up, down, fraction(amount)))
    return tuple(exchanges)


def walks():
    """Tuples (house, row, other row, walk)."""
    dice = random.Random(601)
    told = []
    for house in some_houses():
        rows = full_rows(dice, house, 1) + full_rows(dice, house, 1)[:1]
        for row, other in itertools.permutations(rows, 2):
            things = dice.sample(range(house[0]), house[0])
            told.append((house, row, other, walk_by_words(house, row, other, things)))
    return told


WALKS = walks()
LONG = [told for told in WALKS if len(told[3]) > 1]
HOUSE = (2, (0, 3, 4, 5))
ROWS = (((3, 2), 1), ((1, 4), 1))


class WalkCase(unittest.TestCase):
    def is_one(self, house, row, other, thing):
        self.assertIs(right_walk(house, row, other, thing), True, (house, row, other, thing))

    def is_none(self, house, row, other, thing):
        before = copy.deepcopy(thing)
        self.assertIs(right_walk(house, row, other, thing), False, (house, row, other, thing))
        self.assertEqual(thing, before)

    def compare(self, house, row, other, thing):
        right = right_by_words(house, row, other, thing)
        self.assertIs(right_walk(house, row, other, thing), right, (house, row, other, thing))
        return right


class RightTest(WalkCase):
    def test_right_walks(self):
        self.assertGreater(len(LONG), 50)
        self.assertGreater(len([1 for house, row, other, walk in LONG if any(part[2][1] > 1 for part in walk)]), 20)
        for house, row, other, walk in WALKS:
            self.assertTrue(right_by_words(house, row, other, walk))
            self.is_one(house, row, other, walk)
            self.is_one(house, row, other, walk)

    def test_from_a_row_to_itself(self):
        for house, row, other, walk in WALKS:
            self.is_one(house, row, row, ())
            self.assertIs(right_walk(house, row, other, ()), row == other)
            if walk:
                self.is_none(house, row, row, walk)

    def test_turned_round(self):
        for house, row, other, walk in WALKS:
            back = tuple((down, up, amount) for up, down, amount in walk[::-1])
            self.is_one(house, other, row, back)
            if walk:
                self.is_none(house, other, row, walk)
                self.is_none(house, row, other, back)

    def test_one_exchange_in_two_parts(self):
        dice = random.Random(602)
        for house, row, other, walk in WALKS:
            for at, (up, down, (top, bottom)) in enumerate(walk):
                part = Fraction(top, bottom) * Fraction(dice.randint(1, 6), 7)
                rest = Fraction(top, bottom) - part
                two = ((up, down, fraction(part)), (up, down, fraction(rest)))
                self.is_one(house, row, other, walk[:at] + two + walk[at + 1:])

    def test_in_a_thousand_parts(self):
        self.is_one(HOUSE, *ROWS, ((1, 0, (1, 500)),) * 1000)
        self.is_none(HOUSE, *ROWS, ((1, 0, (1, 500)),) * 999)
        self.is_none(HOUSE, *ROWS, ((1, 0, (1, 500)),) * 1001)

    def test_in_parts_of_sixty_figures(self):
        bottom = 10 ** 59 + 1
        self.is_one(HOUSE, *ROWS, ((1, 0, (1, bottom)), (1, 0, (2 * bottom - 1, bottom))))
        self.is_none(HOUSE, *ROWS, ((1, 0, (1, bottom)), (1, 0, (2 * bottom - 2, bottom))))
        self.is_none(HOUSE, *ROWS, ((1, 0, (1, bottom)), (1, 0, (2 * bottom, bottom))))
        # Many unlike bottoms are no harder than one.
        self.is_none(HOUSE, *ROWS, tuple((1, 0, (1, bottom - at)) for at in range(300)))

    def test_known_ones(self):
        self.is_one(HOUSE, *ROWS, ((1, 0, (2, 1)),))
        self.is_one(HOUSE, *ROWS[::-1], ((0, 1, (2, 1)),))
        self.is_one(HOUSE, ((3, 7), 2), ((5, 5), 2), ((0, 1, (1, 1)),))
        self.is_none(HOUSE, ((3, 7), 2), ((5, 5), 2), ((0, 1, (1, 2)),))

    def test_exchanges_in_another_order(self):
        seen = {True: 0, False: 0}
        for house, row, other, walk in LONG:
            for tried in list(itertools.permutations(walk))[:6]:
                seen[self.compare(house, row, other, tried)] += 1
        self.assertGreater(min(seen.values()), 10)

    def test_parts_in_many_orders(self):
        dice = random.Random(605)
        seen = {True: 0, False: 0}
        for turn in range(120):
            house = drawn_house(dice, dice.choice((4, 5)))
            row, other = dice.sample(full_rows(dice, house, 1), 2)
            parts = []
            for up, down, (top, bottom) in walk_by_words(house, row, other, dice.sample(range(house[0]), house[0])):
                part = Fraction(top, bottom) * Fraction(dice.randint(1, 3), 4)
                parts += [(up, down, fraction(part)), (up, down, fraction(Fraction(top, bottom) - part))]
            for again in range(12):
                dice.shuffle(parts)
                seen[self.compare(house, row, other, tuple(parts))] += 1
        self.assertGreater(min(seen.values()), 20)

    def test_ten_things(self):
        for house in ten_houses():
            row = (gains_along(house, tuple(range(10))), 1)
            other = (gains_along(house, tuple(range(9, -1, -1))), 1)
            walk = walk_by_words(house, row, other)
            self.is_one(house, row, other, walk)
            self.is_none(house, row, other, walk[:-1])

    def test_at_the_bound(self):
        house = (2, (0, EDGE, EDGE, -EDGE))
        row, other = ((EDGE, -2 * EDGE), 1), ((-2 * EDGE, EDGE), 1)
        self.is_one(house, row, other, ((1, 0, (3 * EDGE, 1)),))
        self.is_none(house, row, other, ((1, 0, (3 * EDGE - 1, 1)),))
        self.is_none(house, row, other, ((1, 0, (3 * EDGE + 1, 1)),))


class OtherwiseTest(WalkCase):
    def test_one_left_out_or_twice(self):
        for house, row, other, walk in WALKS:
            for at in range(len(walk)):
                self.is_none(house, row, other, walk[:at] + walk[at + 1:])
                self.is_none(house, row, other, walk[:at + 1] + walk[at:])
            if walk:
                self.is_none(house, row, other, walk + walk)

    def test_other_things(self):
        seen = {True: 0, False: 0}
        for house, row, other, walk in WALKS:
            for at, (up, down, amount) in enumerate(walk):
                self.is_none(house, row, other, changed(walk, at, (down, up, amount)))
                for one, lower in itertools.product(range(house[0]), repeat=2):
                    tried = changed(walk, at, (one, lower, amount))
                    if one == lower:
                        self.is_none(house, row, other, tried)
                    else:
                        seen[self.compare(house, row, other, tried)] += 1
        self.assertGreater(min(seen.values()), 50)

    def test_what_is_no_thing(self):
        for house, row, other, walk in WALKS:
            for at, (up, down, amount) in enumerate(walk):
                for value in [house[0], house[0] + 9, -1, up - house[0], FAR, -FAR, *no_numbers()]:
                    self.is_none(house, row, other, changed(walk, at, (value, down, amount)))
                    self.is_none(house, row, other, changed(walk, at, (up, value, amount)))
        self.is_none(HOUSE, *ROWS, ((True, 0, (2, 1)),))
        self.is_none(HOUSE, *ROWS, ((1, False, (2, 1)),))
        self.is_none(HOUSE, *ROWS, ((-1, 0, (2, 1)),))
        self.is_none(HOUSE, *ROWS, ((1, -2, (2, 1)),))

    def test_another_amount(self):
        for house, row, other, walk in WALKS:
            for at, (up, down, (top, bottom)) in enumerate(walk):
                for value in ((top + bottom, bottom), (1, 10 ** 6), (0, 1), (-top, bottom), (top * 2, bottom * 2), (-1, 1),
                              (-top, -bottom), (top, -bottom), (top, 0), (0, 0), (0, bottom + 1), (top * 3, bottom * 3),
                              (FAR, 1), (1, FAR), (top, bottom, 1), (top,), (), top, [top, bottom], (bottom, top + bottom),
                              (str(top), bottom), (top, None), (None, bottom), ((top, bottom),), *no_numbers()):
                    if value != (top, bottom):
                        self.is_none(house, row, other, changed(walk, at, (up, down, value)))

    def test_truths_in_amounts(self):
        rows = (((3, 2), 1), ((2, 3), 1))
        self.is_one(HOUSE, *rows, ((1, 0, (1, 1)),))
        for value in ((True, 1), (1, True), (True, True)):
            self.is_none(HOUSE, *rows, ((1, 0, value),))

    def test_a_nought_among_right_ones(self):
        for house, row, other, walk in LONG[:20]:
            for up, down in itertools.permutations(range(house[0]), 2):
                self.is_none(house, row, other, ((up, down, (0, 1)),) + walk)
                self.is_none(house, row, other, walk + ((up, down, (0, 1)),))
        self.is_none(HOUSE, ROWS[0], ROWS[0], ((0, 1, (0, 1)),))

    def test_past_where_a_price_is_to_be_and_back(self):
        rows = (((3, 2), 1), ((2, 3), 1))
        self.is_none(HOUSE, *rows, ((1, 0, (2, 1)), (0, 1, (1, 1))))
        self.is_none(HOUSE, ROWS[0], ROWS[0], ((1, 0, (1, 1)), (0, 1, (1, 1))))
        for house, row, other, walk in WALKS:
            for up, down, amount in walk[:1]:
                self.is_none(house, row, other, ((up, down, amount), (down, up, amount)) + walk)
                self.is_none(house, row, other, walk + ((down, up, amount), (up, down, amount)))
                self.is_none(house, row, other, ((down, up, amount),) + walk + ((up, down, amount),))

    def test_one_of_both_prices_past_it_and_back(self):
        house = counted(3, (6, 3, 0))
        row, other = ((3, 2, 4), 1), ((2, 4, 3), 1)
        self.is_one(house, row, other, ((1, 0, (1, 1)), (1, 2, (1, 1))))
        # The price that falls goes past it, then the price that grows.
        self.is_none(house, row, other, ((1, 0, (2, 1)), (0, 2, (1, 1))))
        self.is_none(house, other, row, ((0, 1, (2, 1)), (2, 0, (1, 1))))
        self.is_none(house, row, other, ((0, 2, (1, 1)), (1, 0, (2, 1))))

    def test_round_about(self):
        # The middle thing costs the same in both rows, so that nothing leads by way of it.
        house = counted(3, (6, 3, 0))
        row, other = ((6, 3, 0), 1), ((0, 3, 6), 1)
        self.is_one(house, row, other, ((2, 0, (6, 1)),))
        self.is_none(house, row, other, ((1, 0, (3, 1)), (2, 0, (3, 1)), (2, 1, (3, 1))))
        self.is_none(house, row, other, ((2, 1, (3, 1)), (1, 0, (6, 1)), (2, 1, (3, 1))))

    def test_a_walk_that_leaves_the_house(self):
        # The same exchanges lead there in either order, but by the one the row passes a set on the way.
        house = counted(4, (4, 3, 1, 0))
        row, other = ((4, 3, 1, 0), 1), ((3, 4, 0, 1), 1)
        self.is_one(house, row, other, ((1, 0, (1, 1)), (3, 2, (1, 1))))
        seen = {True: 0, False: 0}
        for first, second in itertools.permutations(itertools.permutations(range(4), 2), 2):
            seen[self.compare(house, row, other, ((*first, (1, 1)), (*second, (1, 1))))] += 1
        self.assertEqual(seen[True], 3)
        self.is_one(house, row, other, ((3, 0, (1, 1)), (1, 2, (1, 1))))
        self.is_none(house, row, other, ((1, 2, (1, 1)), (3, 0, (1, 1))))

    def test_parts_more_or_fewer(self):
        for house, row, other, walk in WALKS:
            for at, part in enumerate(walk):
                for value in (list(part), part[:2], part + (0,), part + (None,), part[1:], (part,), part[::-1], (), None,
                              (part[0], part[1], *part[2]), dict(enumerate(part))):
                    self.is_none(house, row, other, changed(walk, at, value))
            if walk:
                for value in (list(walk), walk[0], (walk,), walk + (None,), walk + ((),), dict(enumerate(walk))):
                    self.is_none(house, row, other, value)
            self.is_none(house, row, other, [])

    def test_anything(self):
        for value in [0, 1, FAR, -FAR, *no_numbers(), nested(29), "x" * 100000, tuple(range(20000)), ((), ()), ([], {}),
                      (nested(28),) * 3, ((0, 1, nested(26)),), ((nested(26), 1, (1, 1)),), None, ROWS[0]]:
            if value != ():
                self.is_none(HOUSE, *ROWS, value)
                self.is_none(HOUSE, ROWS[0], ROWS[0], value)


class RefusedTest(unittest.TestCase):
    VALUES = [(), None, 0, True, "walk", [], {}, ((1, 0, (2, 1)),), ((0, 1, (1, 1)),), FAR, nested(29)]

    def refused(self, house, row, other, error):
        told = []
        for value in self.VALUES:
            with self.assertRaises(error) as caught:
                right_walk(house, row, other, value)
            told.append(caught.exception)
        return told

    def test_passes_of_the_first_then_of_the_second(self):
        dice = random.Random(603)
        for house in some_houses():
            row, where = passing_row(house)
            full = full_rows(dice, house, 1)[1]
            for first, second in ((row, full), (full, row), (row, row)):
                for error in self.refused(house, first, second, Passes):
                    self.assertEqual(error.where, where)

    def test_not_full(self):
        dice = random.Random(604)
        for house in some_houses():
            full = full_rows(dice, house, 1)[1]
            prices = prices_of(full)
            low = row_with(changed(tuple(prices), 0, prices[0] - Fraction(1, 3)))
            for first, second in ((low, full), (full, low), (low, low)):
                self.refused(house, first, second, NotFull)

    def test_all_of_the_first_ahead_of_the_second(self):
        low, high, higher = ((3, 1), 1), ((4, 1), 1), ((1, 5), 1)
        self.refused(HOUSE, low, high, NotFull)
        self.assertEqual([error.where for error in self.refused(HOUSE, high, low, Passes)], [1] * len(self.VALUES))
        self.assertEqual([error.where for error in self.refused(HOUSE, high, higher, Passes)], [1] * len(self.VALUES))
        self.assertEqual([error.where for error in self.refused(HOUSE, higher, high, Passes)], [2] * len(self.VALUES))


if __name__ == "__main__":
    unittest.main()
