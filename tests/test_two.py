"""Greatest rows below two houses: point 26, and what point 3 says of them."""

import copy
import itertools
import random
import unittest

from examples import (EDGE, changed, cost, counted, covered, drawn_house, edge_houses, is_plain, joined, noughts, paid,
                      prices_of, row_by_words, seven_houses, some_houses, summed, ten_houses, turned_signs, whole_set)
from fallgain.errors import NoFit
from fallgain.houses import check_house
from fallgain.two import common
from fallgain.twopaper import right_common


def shared(one, other):
    """For each set the one's worth of it and the other's of the rest, together."""
    return [worth + other[1][whole_set(one[0]) - number] for number, worth in enumerate(one[1])]


def raised_below_both(one, other, prices, order):
    """The prices, each raised in this order as far as both houses let, by all sets."""
    grown = list(prices)
    for thing in order:
        having = [number for number in range(2 ** one[0]) if number & 2 ** thing]
        grown[thing] += min(min(one[1][number], other[1][number]) - cost(grown, number) for number in having)
    return grown


def low_prices(dice, one, other):
    """Prices below both houses, drawn by the dice."""
    fewest = [min(house[1][-1] - house[1][-1 - 2 ** thing] for house in (one, other)) for thing in range(one[0])]
    return [price - dice.randint(0, 6) for price in fewest]


class CommonCase(unittest.TestCase):
    def ask(self, one, other):
        """Ask, and hold what is told against the words of the document by all sets."""
        many = one[0]
        before = copy.deepcopy((one, other))
        told = common(one, other)
        self.assertTrue(is_plain(told))
        row, number, left, right = told
        self.assertEqual(len(row), many)
        self.assertIn(number, range(2 ** many))
        for house, mixture in ((one, left), (other, right)):
            for price, most in zip(row, prices_of(row_by_words(house, mixture))):
                self.assertLessEqual(price, most)
            for at, worth in enumerate(house[1]):
                self.assertLessEqual(cost(row, at), worth)
        self.assertEqual(sum(row), shared(one, other)[number])
        self.assertEqual(sum(row), min(shared(one, other)))
        self.assertIs(right_common(one, other, told), True)
        self.assertEqual(common(one, other), told)
        self.assertEqual((one, other), before)
        return told

    def ask_both_ways(self, one, other):
        self.assertEqual(sum(self.ask(one, other)[0]), sum(self.ask(other, one)[0]))


def drawn_pairs():
    dice = random.Random(401)
    pairs = []
    for many in (1, 1, 1, 2, 2, 2, 2, 3, 3, 3, 3, 4, 4, 4, 5, 5, 5):
        one, other = drawn_house(dice, many), drawn_house(dice, many)
        pairs.append((one, other))
        for turn in range(4):
            pairs.append((paid(one, [dice.choice((-60, -9, 4, 60)) for thing in range(many)]), other))
        pairs.append((counted(many, sorted([dice.randint(-9, 9) for thing in range(many)], reverse=True)), other))
    return pairs


class CommonTest(CommonCase):
    def test_one_to_five_things(self):
        sets = set()
        for one, other in drawn_pairs():
            self.ask_both_ways(one, other)
            sets.add((one[0], common(one, other)[1]))
        # Not only no things and all are told.
        self.assertGreater(len([1 for many, number in sets if number not in (0, whole_set(many))]), 8)

    def test_known_ones(self):
        self.assertEqual(sum(self.ask((2, (0, 3, 4, 5)), (2, (0, 4, 2, 4)))[0]), 4)
        self.assertEqual(self.ask((2, (0, 3, 4, 5)), (2, (0, 2, 9, 9)))[0], (2, 3))
        self.assertEqual(sum(self.ask((2, (0, 3, 4, 5)), (2, (0, 1, 1, 2)))[0]), 2)
        self.assertEqual(self.ask((1, (0, 4)), (1, (0, 7)))[0], (4,))
        self.assertEqual(self.ask((1, (0, 4)), (1, (0, 7)))[1], 1)
        self.assertEqual(self.ask((1, (0, 7)), (1, (0, 4)))[1], 0)
        # Colours of four things that go together: two ranks have just two things in common.
        self.assertEqual(sum(self.ask(covered(4, (3, 12)), covered(4, (5, 10)))[0]), 2)
        self.assertEqual(sum(self.ask(covered(4, (3, 12)), counted(4, (1, 0, 0, 0)))[0]), 1)

    def test_no_row_that_is_raised_below_both_comes_to_more(self):
        dice = random.Random(402)
        reached = 0
        for one, other in drawn_pairs():
            most = sum(common(one, other)[0])
            for turn in range(5):
                order = dice.sample(range(one[0]), one[0])
                grown = sum(raised_below_both(one, other, low_prices(dice, one, other), order))
                self.assertLessEqual(grown, most)
                reached += grown == most
            row = common(one, other)[0]
            for thing in range(one[0]):
                more = changed(row, thing, row[thing] + 1)
                self.assertTrue(any(cost(more, at) > min(one[1][at], other[1][at]) for at in range(2 ** one[0])))
        self.assertGreater(reached, 50)

    def test_with_itself(self):
        for house in some_houses():
            # An order's row is below the house twice, and comes to all that all things are worth.
            self.assertEqual(sum(self.ask(house, house)[0]), house[1][-1])

    def test_with_noughts(self):
        for house in some_houses():
            # No price is above 0 then, so that they come to the least worth.
            for one, other in ((house, noughts(house[0])), (noughts(house[0]), house)):
                row = self.ask(one, other)[0]
                self.assertEqual(sum(row), min(house[1]))
                self.assertLessEqual(max(row), 0)

    def test_with_prices(self):
        dice = random.Random(403)
        for house in some_houses()[3:]:
            prices = [dice.randint(-9, 9) for thing in range(house[0])]
            row = self.ask(house, summed(house[0], prices))[0]
            self.assertTrue(all(price <= most for price, most in zip(row, prices)))

    def test_worths_at_the_bound(self):
        houses = edge_houses() + [(many, (0,) + (EDGE,) * (2 ** many - 1)) for many in (1, 2, 3, 4)]
        houses += [summed(many, (-EDGE // many,) * many) for many in (1, 2, 4)] + [noughts(many) for many in (1, 2, 3, 4)]
        asked = 0
        for one, other in itertools.product(houses, repeat=2):
            if one[0] == other[0]:
                self.ask(one, other)
                asked += 1
        self.assertGreater(asked, 60)

    def test_the_floor_on_the_way_goes_beyond_the_bound(self):
        one, other = (2, (0, EDGE, EDGE, -EDGE)), (2, (0, -EDGE, EDGE, -EDGE))
        self.assertIs(check_house(one), True)
        self.assertIs(check_house(other), True)
        self.assertEqual(min(shared(one, other)), -EDGE)
        self.ask_both_ways(one, other)
        self.ask_both_ways((1, (0, EDGE)), (1, (0, -EDGE)))
        self.ask_both_ways((1, (0, -EDGE)), (1, (0, -EDGE)))

    def test_six_and_seven_things(self):
        dice = random.Random(404)
        for turn in range(4):
            self.ask_both_ways(drawn_house(dice, 6), paid(drawn_house(dice, 6), [dice.randint(-5, 5) for at in range(6)]))
        self.ask_both_ways(*seven_houses()[:2])

    def test_ten_things(self):
        pieces = [counted(10, (3,) * 5 + (0,) * 5), covered(10, (96, 97, 3))]
        self.ask_both_ways(*pieces)
        self.ask_both_ways(ten_houses()[1], ten_houses()[2])
        self.ask_both_ways(joined(pieces[0], summed(10, (-1, 2) * 5)), noughts(10))

    def test_turned_signs_are_no_house_but_sums_are(self):
        # By a house of sums alone each price is the lesser of both.
        one, other = summed(3, (4, -2, 9)), summed(3, (1, 5, 9))
        self.assertEqual(self.ask(one, other)[0], (1, -2, 9))
        self.assertEqual(self.ask(one, turned_signs(one))[0], (-4, -2, -9))


class NoFitTest(unittest.TestCase):
    def test_unlike_many(self):
        for one, other in itertools.permutations(range(1, 11), 2):
            with self.assertRaises(NoFit):
                common(noughts(one), counted(other, (1,) * other))


if __name__ == "__main__":
    unittest.main()
