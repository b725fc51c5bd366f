"""Floors: point 25."""

import copy
import itertools
import random
import unittest

from examples import (EDGE, FAR, changed, counted, covered, drawn_house, edge_houses, houses_with_several, nested,
                      no_numbers, noughts, some_houses, summed, ten_houses, turned_signs)
from fallgain.floors import is_floor
from fallgain.houses import check_house


def rises_by_words(floor):
    """Whether any two sets have no more worth than what either has and what both have."""
    worths = floor[1]
    for one, other in itertools.combinations(range(len(worths)), 2):
        if worths[one] + worths[other] > worths[one | other] + worths[one & other]:
            return False
    return True


class IsFloorTest(unittest.TestCase):
    def is_one(self, thing):
        self.assertIs(is_floor(thing), True, thing)

    def is_none(self, thing):
        before = copy.deepcopy(thing)
        self.assertIs(is_floor(thing), False, thing)
        self.assertEqual(thing, before)

    def houses(self):
        return some_houses() + houses_with_several() + edge_houses()

    def test_houses_with_each_sign_turned(self):
        for house in self.houses() + ten_houses() + [noughts(many) for many in range(1, 11)]:
            self.is_one(turned_signs(house))
            self.is_one(turned_signs(house))

    def test_one_worth_otherwise_by_one(self):
        seen = {True: 0, False: 0}
        for house in self.houses():
            many, worths = turned_signs(house)
            for number in range(1, 2 ** many):
                for more in (-1, 1):
                    other = (many, changed(worths, number, worths[number] + more))
                    if abs(worths[number] + more) > EDGE:
                        self.is_none(other)
                    else:
                        right = rises_by_words(other)
                        self.assertIs(is_floor(other), right)
                        seen[right] += 1
        self.assertGreater(min(seen.values()), 50)

    def test_one_worth_of_ten_things_otherwise(self):
        many, worths = turned_signs(summed(10, tuple(range(-5, 5))))
        self.is_one((many, worths))
        for number in (1, 2, 512, 3, 1022, 1023, 85):
            # Here all gains are alike, so that only the worth of all things may be greater.
            self.assertIs(is_floor((many, changed(worths, number, worths[number] + 1))), number == 1023)
            self.is_none((many, changed(worths, number, worths[number] - 1)))

    def test_a_house_that_is_no_floor(self):
        seen = {True: 0, False: 0}
        for house in self.houses() + ten_houses():
            self.assertIs(check_house(house), True)
            even = house == summed(house[0], tuple(house[1][2 ** thing] for thing in range(house[0])))
            self.assertIs(is_floor(house), even)
            seen[even] += 1
        self.assertGreater(min(seen.values()), 2)
        self.is_none(counted(3, (3, 2, 1)))
        self.is_none(covered(2, (3,)))

    def test_drawn_worths(self):
        dice = random.Random(91)
        seen = {True: 0, False: 0}
        for turn in range(300):
            many = dice.randint(1, 3)
            floor = (many, (0, *(dice.randint(-2, 3) for number in range(2 ** many - 1))))
            right = rises_by_words(floor)
            self.assertIs(is_floor(floor), right)
            seen[right] += 1
        for turn in range(10):
            self.is_one(turned_signs(drawn_house(dice, dice.randint(6, 10))))
        self.assertGreater(min(seen.values()), 30)

    def test_the_bound(self):
        for worth in (EDGE, -EDGE):
            self.is_one((1, (0, worth)))
        for worth in (EDGE + 1, -EDGE - 1, FAR, -FAR):
            self.is_none((1, (0, worth)))
        self.is_one((2, (0, -EDGE, -EDGE, EDGE)))
        self.is_none((2, (0, -EDGE, -EDGE, EDGE + 1)))
        self.is_none((2, (0, -EDGE - 1, -EDGE, EDGE)))

    def test_no_things_are_worth_nought(self):
        for value in [1, -1, EDGE, -EDGE, FAR, *no_numbers()]:
            self.is_none((1, (value, 5)))
            self.is_none((2, (value, 1, 1, 9)))

    def test_worths_more_or_fewer(self):
        for house in self.houses():
            many, worths = turned_signs(house)
            for other in (worths[:-1], worths + (0,), worths + worths[-1:], worths[1:], (), worths * 2):
                self.is_none((many, other))

    def test_what_is_no_worth(self):
        for value in [*no_numbers(), str(3), nested(26)]:
            for at in range(4):
                self.is_none((2, changed((0, 1, 1, 3), at, value)))

    def test_many(self):
        self.is_one((1, (0, 4)))
        for many in [0, -1, 2, 11, FAR, -FAR, *no_numbers()]:
            self.is_none((many, (0, 4)))
        self.is_none((0, (0,)))
        self.is_none((11, (0,) * 2048))
        self.is_none((10, (0,) * 2048))
        self.is_none((True, (0, 4)))

    def test_lists(self):
        self.is_none([1, (0, 4)])
        self.is_none((1, [0, 4]))
        self.is_none([1, [0, 4]])
        self.is_none({1: (0, 4)})
        self.is_none((1, {0: 0, 1: 4}))

    def test_anything(self):
        for value in [0, 1, FAR, -FAR, *no_numbers(), nested(29), "x" * 100000, tuple(range(20000)), ((), ()), ([], {}),
                      (1,), (1, (0, 4), 1), (1, (0, 4), ()), ((0, 4), 1), ((1, (0, 4)),), (1, "04"), (nested(28), (0, 4)),
                      (1, nested(28)), (1, "x" * 100000), (10, tuple(range(19990)))]:
            self.is_none(value)


if __name__ == "__main__":
    unittest.main()
