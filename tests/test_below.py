"""Rows below a house: points 13 and 14."""

import itertools
import random
import unittest
from fractions import Fraction

from examples import changed, cost, covered, joined, prices_of, row_with, some_houses, summed
from fallgain.below import is_below, is_full, passed, raised, room_up
from fallgain.errors import Passes
from fallgain.orders import order_row, stretched
from fallgain.rows import is_row


def first_passed(house, row):
    """The first set whose price is above its worth, by the words of the document."""
    prices = prices_of(row)
    for number, most in enumerate(house[1]):
        if cost(prices, number) > most:
            return number
    return None


def expected_room(house, prices, thing):
    many, worths = house
    return min(worths[number] - cost(prices, number) for number in range(2 ** many) if number & 2 ** thing)


def expected_raised(house, row, order):
    prices = prices_of(row)
    for thing in order:
        prices[thing] += expected_room(house, prices, thing)
    return prices


def full_rows(house):
    """Rows of orders, and ones halfway and a third of the way between two of them."""
    rows = [order_row(house, order) for order in itertools.permutations(range(house[0]))][:8]
    told = [row_with(row) for row in rows]
    for one, other in zip(rows, rows[1:] + rows[:1]):
        told.append(row_with([Fraction(a + b, 2) for a, b in zip(one, other)]))
        told.append(row_with([Fraction(a + 2 * b, 3) for a, b in zip(one, other)]))
    return told


def low_rows(house):
    """Rows that lie below: full ones, let down here and there."""
    dice = random.Random(11)
    for row in full_rows(house):
        yield row
        for drop in (Fraction(1, row[1]), Fraction(5, 7), Fraction(40)):
            prices = [price - drop * dice.randint(0, 2) for price in prices_of(row)]
            yield row_with(prices)


class BelowTest(unittest.TestCase):
    def compare(self, house, row):
        expected = first_passed(house, row)
        self.assertEqual(passed(house, row), expected)
        self.assertIs(is_below(house, row), expected is None)
        whole = sum(prices_of(row)) == house[1][-1]
        self.assertIs(is_full(house, row), expected is None and whole)
        self.assertEqual(passed(house, row), expected)

    def test_full_rows(self):
        for house in some_houses():
            for row in full_rows(house):
                self.assertIs(is_below(house, row), True)
                self.assertIs(is_full(house, row), True)
                self.assertIsNone(passed(house, row))

    def test_let_down(self):
        for house in some_houses():
            for row in full_rows(house):
                for thing in range(house[0]):
                    lower = row_with(changed(tuple(prices_of(row)), thing, prices_of(row)[thing] - Fraction(1, row[1])))
                    self.compare(house, lower)
                    self.assertIs(is_below(house, lower), True)
                    self.assertIs(is_full(house, lower), False)

    def test_moved_up_by_the_least_amount(self):
        for house in some_houses():
            for row in full_rows(house):
                for thing in range(house[0]):
                    for amount in (Fraction(1, row[1]), Fraction(1, 10 ** 6)):
                        prices = tuple(prices_of(row))
                        higher = row_with(changed(prices, thing, prices[thing] + amount))
                        self.compare(house, higher)
                        self.assertIs(is_below(house, higher), False)
                        self.assertIs(is_full(house, higher), False)
                        self.assertIn(thing, [at for at in range(house[0]) if passed(house, higher) & 2 ** at])

    def test_moved_from_one_to_another(self):
        for house in some_houses():
            for row in full_rows(house):
                for one, other in itertools.permutations(range(house[0]), 2):
                    numbers = list(row[0])
                    numbers[one] += 1
                    numbers[other] -= 1
                    self.compare(house, (tuple(numbers), row[1]))

    def test_the_first_set_by_its_number(self):
        house = (3, (0, 3, 3, 4, 3, 4, 4, 4))
        self.assertEqual(passed(house, ((4, 4, 4), 1)), 1)
        self.assertEqual(passed(house, ((3, 4, 4), 1)), 2)
        self.assertEqual(passed(house, ((3, 3, 4), 1)), 3)
        self.assertEqual(passed(house, ((0, 3, 4), 1)), 4)
        self.assertEqual(passed(house, ((3, 1, 2), 1)), 5)
        self.assertEqual(passed(house, ((1, 2, 3), 1)), 6)
        self.assertEqual(passed(house, ((2, 2, 1), 1)), 7)
        self.assertIsNone(passed(house, ((2, 1, 1), 1)))
        self.assertEqual(passed(house, ((5, 4, 4), 3)), 7)

    def test_full_asks_for_just_the_worth_of_all(self):
        house = (2, (0, 3, 4, 5))
        self.assertIs(is_full(house, ((3, 2), 1)), True)
        self.assertIs(is_full(house, ((3, 7), 2)), True)
        self.assertIs(is_full(house, ((2, 7), 2)), False)
        self.assertIs(is_full(house, ((5, 5), 2)), True)
        self.assertIs(is_full(house, ((3, 1), 1)), False)
        self.assertIs(is_full(house, ((4, 1), 1)), False)
        self.assertIs(is_full(house, ((0, 5), 1)), False)

    def test_worths_below_nought(self):
        house = (2, (0, -3, -4, -7))
        self.assertIs(is_full(house, ((-3, -4), 1)), True)
        self.assertEqual(passed(house, ((0, 0), 1)), 1)
        self.assertEqual(passed(house, ((-3, -3), 1)), 2)

    def test_great_numbers(self):
        house = (2, (0, 10 ** 15, 10 ** 15, 10 ** 15))
        self.assertIs(is_full(house, ((10 ** 15, 0), 1)), True)
        self.assertIs(is_below(house, ((10 ** 18, -10 ** 18), 10 ** 3 + 1)), True)
        self.assertEqual(passed(house, ((10 ** 18, 1), 10 ** 3)), 3)
        self.assertEqual(passed(house, ((10 ** 18 + 1, -10 ** 18), 10 ** 3)), 1)


class RoomUpTest(unittest.TestCase):
    def test_named_rooms(self):
        house = (2, (0, 3, 4, 5))
        self.assertEqual(room_up(house, ((0, 0), 1), 0), (3, 1))
        self.assertEqual(room_up(house, ((0, 0), 1), 1), (4, 1))
        self.assertEqual(room_up(house, ((0, 5), 2), 0), (5, 2))
        self.assertEqual(room_up(house, ((3, 2), 1), 0), (0, 1))
        self.assertEqual(room_up(house, ((3, 2), 1), 1), (0, 1))

    def test_rows_below(self):
        for house in some_houses():
            for row in low_rows(house):
                for thing in range(house[0]):
                    expected = expected_room(house, prices_of(row), thing)
                    told = room_up(house, row, thing)
                    self.assertEqual(told, (expected.numerator, expected.denominator))
                    self.assertGreaterEqual(told[0], 0)
                    self.assertEqual(told, room_up(house, row, thing))

    def test_just_so_far(self):
        house = (3, (0, 3, 3, 4, 3, 4, 4, 4))
        row = ((1, 0, 1), 2)
        for thing in range(3):
            room = Fraction(*room_up(house, row, thing))
            prices = tuple(prices_of(row))
            self.assertIs(is_below(house, row_with(changed(prices, thing, prices[thing] + room))), True)
            over = room + Fraction(1, 10 ** 9)
            self.assertIs(is_below(house, row_with(changed(prices, thing, prices[thing] + over))), False)


class RaisedTest(unittest.TestCase):
    def test_named_rows(self):
        house = (2, (0, 3, 4, 5))
        self.assertEqual(raised(house, ((0, 0), 1), (0, 1)), ((3, 2), 1))
        self.assertEqual(raised(house, ((0, 0), 1), (1, 0)), ((1, 4), 1))
        self.assertEqual(raised(house, ((5, 0), 2), (1, 0)), ((5, 5), 2))
        self.assertEqual(raised(house, ((1, 1), 2), (0, 1)), ((3, 2), 1))

    def test_rows_below(self):
        for house in some_houses():
            many = house[0]
            orders = list(itertools.permutations(range(many)))[::5 if many > 3 else 1]
            for row in list(low_rows(house))[::3]:
                for order in orders[:6]:
                    told = raised(house, row, order)
                    self.assertEqual(prices_of(told), expected_raised(house, row, order))
                    self.assertIs(is_row(many, told), True)
                    self.assertIs(is_full(house, told), True)
                    self.assertTrue(all(new >= old for new, old in zip(prices_of(told), prices_of(row))))

    def test_raised_again_it_stays(self):
        for house in some_houses():
            order = tuple(range(house[0]))
            for row in low_rows(house):
                told = raised(house, row, order)
                self.assertEqual(raised(house, told, order), told)
                self.assertEqual(raised(house, told, order[::-1]), told)
                self.assertEqual(raised(house, row, order), told)

    def test_from_far_below_it_is_the_order_row(self):
        for house in some_houses():
            many = house[0]
            for order in itertools.permutations(range(many)):
                row = ((-10 ** 17,) * many, 1)
                self.assertEqual(raised(house, row, order), (order_row(house, order), 1))

    def test_by_no_full_row_do_wishes_come_to_more(self):
        dice = random.Random(3)
        for house in some_houses():
            many = house[0]
            for row in low_rows(house):
                prices = prices_of(raised(house, row, tuple(range(many))))
                for turn in range(5):
                    wishes = tuple(dice.randint(-9, 9) for thing in range(many))
                    self.assertLessEqual(sum(w * p for w, p in zip(wishes, prices)), stretched(house, wishes))

    def test_ten_things(self):
        house = joined(covered(10, (3, 6, 1023, 640)), summed(10, tuple(range(-5, 5))))
        order = (9, 0, 8, 1, 7, 2, 6, 3, 5, 4)
        row = (tuple(-20 - thing for thing in range(10)), 3)
        told = raised(house, row, order)
        self.assertEqual(prices_of(told), expected_raised(house, row, order))
        self.assertIs(is_full(house, told), True)
        self.assertEqual(row, (tuple(-20 - thing for thing in range(10)), 3))


class PassesTest(unittest.TestCase):
    def test_both_tell_the_first_set(self):
        seen = set()
        for house in some_houses():
            many = house[0]
            for row in full_rows(house):
                for thing in range(many):
                    higher = (changed(row[0], thing, row[0][thing] + 1), row[1])
                    expected = first_passed(house, higher)
                    seen.add(expected)
                    asks = [lambda: room_up(house, higher, thing), lambda: raised(house, higher, tuple(range(many)))]
                    for ask in asks:
                        with self.assertRaises(Passes) as caught:
                            ask()
                        self.assertEqual(caught.exception.where, expected)
        self.assertGreater(len(seen), 3)

    def test_room_of_a_thing_that_is_not_in_the_set(self):
        with self.assertRaises(Passes) as caught:
            room_up((2, (0, 3, 4, 5)), ((4, 0), 1), 1)
        self.assertEqual(caught.exception.where, 1)


if __name__ == "__main__":
    unittest.main()
