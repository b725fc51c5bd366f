"""Rows between a house and a floor: point 25, and what point 3 says of them."""

import copy
import itertools
import random
import unittest

from examples import (EDGE, changed, cost, counted, covered, drawn_house, drawn_orders, edge_houses, gains_along,
                      is_plain, noughts, paid, prices_of, row_by_words, seven_houses, small_floors, some_houses,
                      summed, ten_houses, turned_signs)
from fallgain.between import between
from fallgain.errors import NoFit
from fallgain.floorpaper import right_between
from fallgain.floors import is_floor
from fallgain.houses import check_house


class BetweenCase(unittest.TestCase):
    def is_row(self, house, floor):
        """Ask, and hold what is told against the words of the document by all sets."""
        many = house[0]
        before = copy.deepcopy((house, floor))
        told = between(house, floor)
        self.assertIs(type(told), tuple)
        word, row, over, under = told
        self.assertEqual(word, "row")
        self.assertTrue(is_plain(told[1:]))
        self.assertEqual(len(row), many)
        for price, most in zip(row, prices_of(row_by_words(house, over))):
            self.assertLessEqual(price, most)
        for price, fewest in zip(row, prices_of(row_by_words(floor, under))):
            self.assertGreaterEqual(price, fewest)
        for number in range(2 ** many):
            self.assertTrue(floor[1][number] <= cost(row, number) <= house[1][number], (house, floor, told))
        self.assertIs(right_between(house, floor, told), True)
        self.assertEqual(between(house, floor), told)
        self.assertEqual((house, floor), before)
        return told

    def is_cross(self, house, floor):
        where = min(number for number, low in enumerate(floor[1]) if low > house[1][number])
        told = between(house, floor)
        self.assertEqual(told, ("cross", where))
        self.assertIs(type(told[1]), int)
        self.assertIs(right_between(house, floor, told), True)
        self.assertEqual(between(house, floor), told)


class RowTest(BetweenCase):
    def test_floors_below_houses_of_one_to_five(self):
        dice = random.Random(201)
        for house in some_houses():
            for floor in small_floors(dice, house):
                if max(map(abs, floor[1])) <= EDGE:
                    self.assertIs(is_floor(floor), True)
                    self.is_row(house, floor)

    def test_a_house_with_each_sign_turned(self):
        seen = 0
        for house in some_houses() + edge_houses():
            for other in some_houses() + edge_houses():
                floor = turned_signs(other)
                if house[0] == other[0] and all(low <= high for low, high in zip(floor[1], house[1])):
                    self.is_row(house, floor)
                    seen += 1
        self.assertGreater(seen, 10)

    def test_its_own_order_row_is_the_only_one(self):
        dice = random.Random(202)
        for house in some_houses():
            for order in drawn_orders(dice, house[0], 2):
                prices = gains_along(house, order)
                told = self.is_row(house, summed(house[0], prices))
                self.assertEqual(told[1], prices)

    def test_noughts(self):
        for many in range(1, 6):
            self.assertEqual(self.is_row(noughts(many), noughts(many))[1], (0,) * many)

    def test_floors_that_touch_at_some_sets(self):
        house = (2, (0, 3, 4, 5))
        for floor in ((2, (0, 3, 2, 5)), (2, (0, 1, 4, 5)), (2, (0, 3, 0, 4)), (2, (0, 0, 4, 4)), (2, (0, 1, 1, 5))):
            self.assertIs(is_floor(floor), True)
            self.is_row(house, floor)
        # Where both touch at one thing and at all, no other prices are left.
        self.assertEqual(self.is_row(house, (2, (0, 3, 2, 5)))[1], (3, 2))
        self.assertEqual(self.is_row(house, (2, (0, 1, 4, 5)))[1], (1, 4))

    def test_seven_things(self):
        dice = random.Random(203)
        for house in seven_houses():
            for floor in small_floors(dice, house):
                self.is_row(house, floor)

    def test_ten_things(self):
        dice = random.Random(204)
        for house in (covered(10, (96, 640)), counted(10, (7,) * 4 + (1,) * 6)):
            for floor in small_floors(dice, house)[:2] + [noughts(10)]:
                self.is_row(house, floor)
        house = ten_houses()[1]
        self.is_row(house, small_floors(dice, house)[1])

    def test_worths_at_the_bound_on_either_side(self):
        for many in (1, 2, 3, 4):
            high = (many, (0,) + (EDGE,) * (2 ** many - 1))
            self.assertIs(check_house(high), True)
            low = turned_signs(high)
            self.is_row(high, low)
            self.is_row(high, noughts(many))
            self.is_row(noughts(many), low)
        self.is_row((1, (0, EDGE)), (1, (0, EDGE)))
        self.is_row((1, (0, -EDGE)), (1, (0, -EDGE)))
        self.is_row((2, (0, EDGE, EDGE, -EDGE)), (2, (0, -EDGE, -EDGE, -EDGE)))
        self.is_row((2, (0, EDGE, EDGE, EDGE)), (2, (0, -EDGE, -EDGE, EDGE)))
        for house in edge_houses():
            self.is_row(house, (house[0], gained(house)))


def gained(house):
    """The worths by the prices of the things in the order of their numbers: a floor that touches the house."""
    return summed(house[0], gains_along(house, tuple(range(house[0]))))[1]


class CrossTest(BetweenCase):
    def test_above_at_just_one_set(self):
        house = (2, (0, 3, 4, 5))
        self.is_cross(house, (2, (0, 4, 0, 5)))
        self.is_cross(house, (2, (0, 0, 5, 5)))
        self.is_cross(house, (2, (0, 3, 2, 6)))
        self.assertEqual(between(house, (2, (0, 3, 2, 6))), ("cross", 3))

    def test_above_all_things_alone(self):
        for house in some_houses()[3:]:
            prices = gains_along(house, tuple(range(house[0])))
            floor = summed(house[0], prices)
            floor = (house[0], changed(floor[1], len(floor[1]) - 1, floor[1][-1] + 1))
            self.assertIs(is_floor(floor), True)
            self.is_cross(house, floor)

    def test_above_at_several(self):
        dice = random.Random(205)
        first = set()
        for turn in range(60):
            many = dice.randint(1, 5)
            house = drawn_house(dice, many)
            prices = [dice.randint(-4, 12) for thing in range(many)]
            floor = turned_signs(paid(drawn_house(dice, many), prices))
            if any(low > high for low, high in zip(floor[1], house[1])):
                self.is_cross(house, floor)
                first.add(between(house, floor)[1])
            else:
                self.is_row(house, floor)
        self.assertGreater(len(first), 4)

    def test_far_apart(self):
        self.is_cross((1, (0, -EDGE)), (1, (0, EDGE)))
        self.is_cross(noughts(10), summed(10, (0,) * 9 + (1,)))
        self.assertEqual(between(noughts(10), summed(10, (0,) * 9 + (1,))), ("cross", 512))


class NoFitTest(unittest.TestCase):
    def test_unlike_many(self):
        for one, other in itertools.permutations(range(1, 11), 2):
            with self.assertRaises(NoFit):
                between(noughts(one), noughts(other))

    def test_also_where_they_would_cross(self):
        with self.assertRaises(NoFit):
            between((1, (0, 3)), (2, (0, 4, 0, 4)))


if __name__ == "__main__":
    unittest.main()
