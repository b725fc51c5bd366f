"""Houses: points 5 and 6, and what point 3 says of any two sets."""

import copy
import itertools
import unittest

from examples import (BOUND, EDGE, FAR, changed, counted, covered, house_by, joined, nested,
                      no_numbers, some_houses, summed)
from fallgain.errors import Crossing, NoHouse, NoSet, NoThing
from fallgain.houses import check_house, gain, worth


def first_crossing(house):
    """Where, one and other by the words of the document, or None."""
    many, worths = house
    for number in range(2 ** many):
        for one, other in itertools.combinations(range(many), 2):
            a, b = 2 ** one, 2 ** other
            if number & (a + b):
                continue
            if worths[number + a] + worths[number + b] < worths[number + a + b] + worths[number]:
                return (number, one, other)
    return None


class CheckHouseTest(unittest.TestCase):
    def refused(self, thing):
        before = copy.deepcopy(thing)
        with self.assertRaises(NoHouse):
            check_house(thing)
        self.assertEqual(thing, before)

    def crossing(self, house):
        with self.assertRaises(Crossing) as caught:
            check_house(house)
        error = caught.exception
        return (error.where, error.one, error.other)

    def test_houses_are_let_by(self):
        for house in some_houses():
            with self.subTest(house=house):
                self.assertIs(check_house(house), True)
                self.assertIs(check_house(house), True)

    def test_of_any_two_sets(self):
        for many, worths in some_houses():
            for one, other in itertools.product(range(2 ** many), repeat=2):
                self.assertGreaterEqual(worths[one] + worths[other], worths[one | other] + worths[one & other])

    def test_ten_things(self):
        house = joined(covered(10, (3, 12, 1023, 513)), summed(10, tuple(range(-5, 5))))
        self.assertIs(check_house(house), True)
        self.assertIs(check_house(counted(10, (5, 5, 5, 4, 4, 1, 0, 0, -1, -10 ** 14))), True)
        worths = house[1]
        self.assertEqual(self.crossing((10, changed(worths, 1023, worths[1023] + 5))), (255, 8, 9))

    def test_worths_at_their_bounds(self):
        for edge in (EDGE, -EDGE):
            self.assertIs(check_house((1, (0, edge))), True)
            self.refused((1, (0, edge + (1 if edge > 0 else -1))))
        self.assertIs(check_house((2, (0, EDGE, EDGE, -EDGE))), True)
        self.assertIs(check_house((2, (0, EDGE, 0, EDGE))), True)
        self.refused((2, (0, EDGE, EDGE + 1, EDGE)))
        self.refused((2, (0, 0, 0, -EDGE - 1)))
        self.refused((1, (0, FAR)))
        self.refused((1, (0, -FAR)))

    def test_many(self):
        self.refused((0, (0,)))
        self.refused((0, ()))
        self.refused((-1, (0,)))
        self.refused((11, (0,) * 2 ** 11))
        self.refused((FAR, (0, 1)))
        self.refused((-FAR, (0, 1)))
        for value in no_numbers():
            self.refused((value, (0, 1)))

    def test_true_is_not_one_thing(self):
        self.refused((True, (0, 1)))

    def test_worths(self):
        self.refused((2, [0, 1, 1, 1]))
        self.refused((2, (0, 1, 1)))
        self.refused((2, (0, 1, 1, 1, 1)))
        self.refused((2, ()))
        self.refused((1, {0: 0, 1: 1}))
        self.refused((2, "0111"))
        for value in [3, *no_numbers()]:
            self.refused((2, value))
        for value in no_numbers():
            for at in range(4):
                self.refused((2, changed((0, 2, 2, 2), at, value)))

    def test_no_things_are_worth_nought(self):
        self.refused((1, (1, 1)))
        self.refused((1, (-1, 5)))
        self.refused((2, (1, 9, 9, 9)))
        self.refused((1, (False, 1)))

    def test_the_pair(self):
        self.refused([1, (0, 1)])
        self.refused((1,))
        self.refused((1, (0, 1), 1))
        self.refused((1, (0, 1), ()))
        for value in [0, 1, FAR, *no_numbers()]:
            self.refused(value)

    def test_nested_deep(self):
        self.refused(nested(29))
        self.refused((1, nested(28)))
        self.refused((1, (0, nested(27))))
        self.refused((nested(28), (0, 1)))

    def test_great_texts_and_many_things(self):
        self.refused("x" * 100000)
        self.refused((1, "x" * 100000))
        self.refused(tuple(range(20000)))
        self.refused((10, tuple(range(19990))))

    def test_gains_that_do_not_fall_by_just_one(self):
        self.assertEqual(self.crossing((2, (0, 3, 4, 8))), (0, 0, 1))
        self.assertIs(check_house((2, (0, 3, 4, 7))), True)
        for house in (counted(3, (2, 1, 0)), summed(4, (3, -2, 0, 5)), covered(4, (3, 6, 12))):
            many, worths = house
            for number in range(1, 2 ** many):
                for step in (-1, 1):
                    other = (many, changed(worths, number, worths[number] + step))
                    expected = first_crossing(other)
                    with self.subTest(house=other):
                        if expected is None:
                            self.assertIs(check_house(other), True)
                        else:
                            self.assertEqual(self.crossing(other), expected)

    def test_the_first_set_then_the_first_things(self):
        self.assertEqual(self.crossing(house_by(3, lambda number: number * number)), (0, 0, 1))
        worths = (0, 1, 1, 2, 1, 2, 3, 3)
        self.assertEqual(self.crossing((3, worths)), (0, 1, 2))
        self.assertEqual(self.crossing((3, (0, 1, 1, 2, 1, 3, 2, 3))), (0, 0, 2))
        self.assertEqual(self.crossing((3, (0, 1, 1, 1, 1, 1, 1, 2))), (1, 1, 2))
        self.assertEqual(self.crossing((3, (0, 1, 1, 1, 1, 1, 2, 2))), (1, 1, 2))
        self.assertEqual(self.crossing((3, (0, 1, 1, 1, 1, 2, 1, 2))), (2, 0, 2))

    def test_wrong_both_ways(self):
        self.refused((2, (0, 0, 0, EDGE + 1)))
        self.refused((2, (-1, -5, -5, 5)))
        self.refused((2, (0, 0, 0, 1, 1)))
        self.refused((3, (0, 0, 0, 1, 0, 0, 0, True)))
        self.refused((2, [0, 0, 0, 1]))


class WorthTest(unittest.TestCase):
    def test_every_set(self):
        for house in some_houses():
            for number, expected in enumerate(house[1]):
                self.assertEqual(worth(house, number), expected)
                self.assertEqual(worth(house, number), expected)

    def test_no_set(self):
        for house in some_houses():
            beyond = 2 ** house[0]
            for number in [beyond, beyond + 1, 1024, -1, -beyond, FAR, -FAR, *no_numbers()]:
                with self.subTest(number=number), self.assertRaises(NoSet):
                    worth(house, number)

    def test_of_ten_things(self):
        house = summed(10, (BOUND,) * 10)
        self.assertEqual(worth(house, 1023), 10 * BOUND)
        with self.assertRaises(NoSet):
            worth(house, 1024)


class GainTest(unittest.TestCase):
    def test_every_set_and_thing(self):
        for house in some_houses():
            many, worths = house
            for number, thing in itertools.product(range(2 ** many), range(many)):
                expected = 0 if number & 2 ** thing else worths[number + 2 ** thing] - worths[number]
                self.assertEqual(gain(house, number, thing), expected)

    def test_gains_fall(self):
        for house in some_houses():
            many = house[0]
            for less, more, thing in itertools.product(range(2 ** many), range(2 ** many), range(many)):
                if less & more == less and not more & 2 ** thing:
                    self.assertGreaterEqual(gain(house, less, thing), gain(house, more, thing))

    def test_no_set_comes_first(self):
        house = (2, (0, 3, 4, 5))
        for number in [4, -1, 1024, FAR, -FAR, *no_numbers()]:
            for thing in [0, 1, 2, -1, FAR, *no_numbers()]:
                with self.assertRaises(NoSet):
                    gain(house, number, thing)

    def test_no_thing(self):
        for house in some_houses():
            many = house[0]
            for thing in [many, many + 1, 10, -1, -many, FAR, -FAR, *no_numbers()]:
                for number in range(2 ** many):
                    with self.assertRaises(NoThing):
                        gain(house, number, thing)


if __name__ == "__main__":
    unittest.main()
