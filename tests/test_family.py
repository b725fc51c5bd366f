"""All least sets: points 18 and 19, and what point 3 says of them."""

import itertools
import random
import unittest

from examples import (FAR, counted, drawn_orders, edge_houses, gains_along, houses_with_several, least_by_all,
                      lowest_by_all, needs_by_all, no_numbers, noughts, paid, some_houses, ten_houses, within)
from fallgain.errors import NoThing
from fallgain.family import highest, least_sets, lowest, needs, told_by, turning
from fallgain.least import least


def ten_with_several():
    dice = random.Random(41)
    return [paid(house, gains_along(house, order)) for house in ten_houses() for order in drawn_orders(dice, 10, 2)]


def all_houses():
    some = some_houses() + houses_with_several() + edge_houses() + ten_houses() + ten_with_several()
    return some + [noughts(many) for many in range(1, 11)]


def told_by_words(many, low, needed):
    """All sets of low and needs, by the words of the document."""
    told = []
    for number in range(2 ** many):
        things = [thing for thing in range(many) if number & 2 ** thing]
        if within(low, number) and all(needed[thing] is not None and within(needed[thing], number) for thing in things):
            told.append(number)
    return tuple(told)


class FamilyTest(unittest.TestCase):
    def test_least_sets(self):
        for house in all_houses():
            told = least_sets(house)
            self.assertEqual(told, tuple(least_by_all(house)))
            self.assertEqual(least_sets(house), told)
            self.assertEqual(told[0], least(house)[0])

    def test_lowest_and_highest(self):
        for house in all_houses():
            some = least_by_all(house)
            self.assertEqual(lowest(house), lowest_by_all(house))
            together = 0
            for number in some:
                together |= number
            self.assertEqual(highest(house), together)
            self.assertIn(lowest(house), some)
            self.assertIn(highest(house), some)

    def test_with_any_two_both_together_and_what_both_have(self):
        for house in all_houses():
            some = set(least_sets(house))
            if len(some) <= 64:
                for one, other in itertools.product(some, repeat=2):
                    self.assertIn(one | other, some)
                    self.assertIn(one & other, some)

    def test_needs(self):
        seen = set()
        for house in all_houses():
            told = needs(house)
            self.assertEqual(told, needs_by_all(house))
            self.assertIs(type(told), tuple)
            seen.update(type(need) for need in told)
            self.assertEqual(needs(house), told)
        self.assertEqual(seen, {int, type(None)})

    def test_needs_are_least_sets(self):
        for house in all_houses():
            for thing, need in enumerate(needs(house)):
                if need is not None:
                    self.assertIn(need, least_sets(house))
                    self.assertTrue(need & 2 ** thing)

    def test_where_no_least_set_has_a_thing(self):
        house = counted(3, (5, 4, 3))
        self.assertEqual(least_sets(house), (0,))
        self.assertEqual(needs(house), (None, None, None))
        self.assertEqual((lowest(house), highest(house)), (0, 0))
        self.assertEqual(needs((2, (0, -3, 4, 1))), (1, None))

    def test_where_all_sets_are_least(self):
        for many in range(1, 11):
            house = noughts(many)
            self.assertEqual(least_sets(house), tuple(range(2 ** many)))
            self.assertEqual(needs(house), tuple(2 ** thing for thing in range(many)))
            self.assertEqual((lowest(house), highest(house)), (0, 2 ** many - 1))

    def test_lowest_and_needs_tell_the_least_sets(self):
        for house in all_houses():
            self.assertEqual(told_by(house[0], lowest(house), needs(house)), least_sets(house))

    def test_all_beginnings_of_an_order(self):
        house = paid(counted(4, (9, 5, 4, 1)), gains_along(counted(4, (9, 5, 4, 1)), (2, 0, 3, 1)))
        self.assertEqual(least_sets(house), (0, 4, 5, 13, 15))
        self.assertEqual(needs(house), (5, 15, 4, 13))


class ToldByTest(unittest.TestCase):
    def test_any_low_and_any_needs_of_two_things(self):
        choices = (None, 0, 1, 2, 3)
        for low, one, other in itertools.product(range(4), choices, choices):
            told = told_by(2, low, (one, other))
            self.assertEqual(told, told_by_words(2, low, (one, other)))
            self.assertIs(type(told), tuple)

    def test_drawn_needs(self):
        dice = random.Random(42)
        for turn in range(600):
            many = dice.randint(1, 7)
            needed = tuple(dice.choice((None, 0, 2 ** thing, dice.randint(0, 2 ** many - 1), dice.randint(0, 2 ** many - 1)))
                           for thing in range(many))
            low = dice.randint(0, 2 ** many - 1) & dice.randint(0, 2 ** many - 1)
            self.assertEqual(told_by(many, low, needed), told_by_words(many, low, needed))

    def test_low_with_a_thing_of_none(self):
        self.assertEqual(told_by(3, 2, (1, None, 4)), ())
        self.assertEqual(told_by(3, 7, (1, None, 4)), ())
        self.assertEqual(told_by(3, 1, (3, None, 4)), ())
        self.assertEqual(told_by(3, 0, (None, None, None)), (0,))

    def test_without_the_thing_itself(self):
        self.assertEqual(told_by(2, 0, (2, 0)), (0, 2, 3))
        self.assertEqual(told_by(2, 0, (0, 0)), (0, 1, 2, 3))
        self.assertEqual(told_by(2, 2, (1, 1)), (3,))

    def test_ten_things(self):
        self.assertEqual(told_by(10, 0, (0,) * 10), tuple(range(1024)))
        chain = tuple(2 ** (thing + 1) - 1 for thing in range(10))
        self.assertEqual(told_by(10, 0, chain), tuple(2 ** size - 1 for size in range(11)))
        self.assertEqual(told_by(10, 8, chain), tuple(2 ** size - 1 for size in range(4, 11)))


class TurningTest(unittest.TestCase):
    def test_each_thing_against_all_sets(self):
        signs = set()
        for house in all_houses():
            for thing in range(house[0]):
                having = [worth for number, worth in enumerate(house[1]) if number & 2 ** thing]
                lacking = [worth for number, worth in enumerate(house[1]) if not number & 2 ** thing]
                told = turning(house, thing)
                self.assertEqual(told, min(having) - min(lacking))
                self.assertIs(type(told), int)
                signs.add((told > 0) - (told < 0))
        self.assertEqual(signs, {-1, 0, 1})

    def test_it_tells_in_which_least_sets_the_thing_is(self):
        for house in all_houses():
            for thing in range(house[0]):
                told = turning(house, thing)
                low, high = bool(lowest(house) & 2 ** thing), bool(highest(house) & 2 ** thing)
                self.assertEqual((low, high), (told < 0, told <= 0))

    def test_with_that_price_it_is_in_some_and_not_in_others(self):
        for house in some_houses():
            for thing in range(house[0]):
                prices = [turning(house, thing) if at == thing else 0 for at in range(house[0])]
                dearer = paid(house, prices)
                self.assertEqual(turning(dearer, thing), 0)
                self.assertFalse(lowest(dearer) & 2 ** thing)
                self.assertTrue(highest(dearer) & 2 ** thing)

    def test_what_is_no_thing(self):
        for house in (some_houses()[0], some_houses()[-1], ten_houses()[0]):
            for value in [house[0], house[0] + 1, 10, 11, 1000, FAR, -1, -house[0], -FAR, *no_numbers()]:
                with self.assertRaises(NoThing):
                    turning(house, value)


if __name__ == "__main__":
    unittest.main()
