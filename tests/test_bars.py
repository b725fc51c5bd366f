"""Papers for all least sets, told: point 21, with lowest and needs of point 18."""

import itertools
import random
import unittest

from examples import (EDGE, drawn_orders, edge_houses, gains_along, houses_with_several, is_plain, least_by_all,
                      lowest_by_all, needs_by_all, noughts, paid, some_houses, summed, ten_houses)
from fallgain.bars import family_of
from fallgain.family import lowest, needs, told_by
from fallgain.familypaper import right_family
from fallgain.making import house_of


def ten_of_pieces():
    """Houses of ten things, of one piece or two."""
    dice = random.Random(61)
    marks = tuple(dice.randint(0, 1023) for thing in range(10))
    pieces = [("sum", tuple(range(-5, 5))), ("meet", 9, 991), ("whole", 8, 1023), ("cut", 5, 9, 0), ("rank", 3, marks),
              ("bent", 1023, (6, 4, 4, 1, 0, 0, -2, -2, -3, -9))]
    prices = ("sum", tuple(dice.randint(-3, 2) for thing in range(10)))
    return [house_of(10, (piece,)) for piece in pieces] + [house_of(10, (piece, prices)) for piece in pieces]


def greatest_in_bars(house, told):
    """The greatest worth, without its sign, in the houses of the bars that grant a thing."""
    many, worths = house
    having = [has for has, lacks, mixture in told[4] if has is not None]
    some = [abs(worths[number] - worths[2 ** has]) for has in having for number in range(2 ** many) if number & 2 ** has]
    return max(some, default=0)


class FamilyOfTest(unittest.TestCase):
    def check(self, house):
        told = family_of(house)
        self.assertIs(right_family(house, told), True, house)
        self.assertTrue(is_plain(told))
        number, mixture, low, needed, bars = told
        self.assertEqual((low, needed), (lowest_by_all(house), needs_by_all(house)))
        self.assertEqual((low, needed), (lowest(house), needs(house)))
        self.assertEqual(list(told_by(house[0], low, needed)), least_by_all(house))
        self.assertEqual(family_of(house), told)
        return told

    def test_houses(self):
        for house in some_houses():
            self.check(house)

    def test_several_least_sets(self):
        for house in houses_with_several():
            self.check(house)

    def test_all_sets_least(self):
        for many in range(1, 11):
            told = self.check(noughts(many))
            self.assertEqual(told[2:], (0, tuple(2 ** thing for thing in range(many)), ()))

    def test_one_least_set_alone(self):
        for many in range(1, 6):
            told = self.check(summed(many, (1,) * many))
            self.assertEqual([bar[:2] for bar in told[4]], [(thing, None) for thing in range(many)])
            told = self.check(summed(many, (-1,) * many))
            self.assertEqual([bar[:2] for bar in told[4]], [(None, thing) for thing in range(many)])

    def test_worths_at_the_bound(self):
        beyond = 0
        for house in edge_houses():
            beyond = max(beyond, greatest_in_bars(house, self.check(house)))
        self.assertEqual(beyond, 2 * EDGE)

    def test_all_houses_of_two_things_with_worths_near_the_bound_or_nought(self):
        for one, other, both in itertools.product((-EDGE, 1 - EDGE, -1, 0, 1, EDGE - 1, EDGE), repeat=3):
            if one + other >= both:
                self.check((2, (0, one, other, both)))

    def test_ten_things(self):
        for house in ten_of_pieces() + ten_houses():
            self.check(house)

    def test_ten_things_with_several_least_sets(self):
        dice = random.Random(62)
        for house in ten_of_pieces()[:6] + ten_houses():
            for order in drawn_orders(dice, 10, 1):
                self.check(paid(house, gains_along(house, order)))

    def test_named_papers(self):
        self.assertEqual(family_of((1, (0, 7))), (0, ((1, (0,)),), 0, (None,), ((0, None, None),)))
        self.assertEqual(family_of((1, (0, -7)))[2:], (1, (1,), ((None, 0, None),)))
        self.assertEqual(family_of((1, (0, 0)))[2:], (0, (1,), ()))
        self.assertEqual(family_of((2, (0, 3, 0, 0)))[2:], (0, (3, 2), ((0, 1, None),)))


if __name__ == "__main__":
    unittest.main()
