"""Changes of houses: points 29 and 30, and what points 1 and 3 say of them."""

import copy
import itertools
import random
import unittest

from examples import (BOUND, EDGE, FAR, bits, changed, cost, counted, covered, drawn_house, edge_houses, full_rows, is_plain,
                      joined, least_by_all, nested, no_numbers, noughts, seven_houses, some_houses, summed, ten_houses,
                      whole_set)
from fallgain.below import is_below
from fallgain.changes import added, beside, folded, granted, priced, together, turned, with_thing, without
from fallgain.errors import Crossing, NoFit, NoHouse, NoPrices, NoThing, TooFew, TooGreat, TooMany
from fallgain.family import least_sets, turning
from fallgain.houses import check_house


def things_of(number):
    return [thing for thing in range(10) if number & 2 ** thing]


def old_set(number, gone):
    """The set by the numbers that the things had while the thing gone was among them."""
    return sum(2 ** (thing if thing < gone else thing + 1) for thing in things_of(number))


def no_things(many):
    return [many, many + 1, -1, -many, 10, 63, FAR, -FAR, *no_numbers(), nested(29), "0"]


def small_houses():
    return some_houses() + edge_houses()


class ChangesCase(unittest.TestCase):
    def told(self, change, *given):
        """What the change tells: a house, the same again, and what was handed in stays."""
        before = copy.deepcopy(given)
        house = change(*given)
        self.assertTrue(is_plain(house))
        self.assertIs(check_house(house), True)
        self.assertEqual(change(*given), house)
        self.assertEqual(given, before)
        return house

    def compare(self, due, change, *given):
        """Hold what is told against a house by words, or the refusal where a worth is too great."""
        if max(map(abs, due[1])) > EDGE:
            self.refused(TooGreat, change, *given)
            return False
        self.assertEqual(self.told(change, *given), due)
        return True

    def refused(self, error, change, *given):
        before = copy.deepcopy(given)
        with self.assertRaises(error) as caught:
            change(*given)
        self.assertIs(type(caught.exception), error)
        self.assertEqual(given, before)
        return caught.exception


class FewerTest(ChangesCase):
    def test_without(self):
        for many, worths in small_houses() + seven_houses() + ten_houses():
            for thing in range(many):
                if many > 1:
                    due = (many - 1, tuple(worths[old_set(number, thing)] for number in range(2 ** (many - 1))))
                    self.assertTrue(self.compare(due, without, (many, worths), thing))

    def test_granted(self):
        seen = {True: 0, False: 0}
        for many, worths in small_houses() + seven_houses() + ten_houses():
            for thing in range(many):
                if many > 1:
                    alone = worths[2 ** thing]
                    due = tuple(worths[old_set(number, thing) | 2 ** thing] - alone for number in range(2 ** (many - 1)))
                    seen[self.compare((many - 1, due), granted, (many, worths), thing)] += 1
        self.assertGreater(min(seen.values()), 5)

    def test_known_ones(self):
        house = (3, (0, 1, 2, 3, 4, 5, 6, 6))
        self.assertEqual(without(house, 0), (2, (0, 2, 4, 6)))
        self.assertEqual(without(house, 1), (2, (0, 1, 4, 5)))
        self.assertEqual(without(house, 2), (2, (0, 1, 2, 3)))
        self.assertEqual(granted(house, 0), (2, (0, 2, 4, 5)))
        self.assertEqual(granted(house, 1), (2, (0, 1, 4, 4)))
        self.assertEqual(granted(house, 2), (2, (0, 1, 2, 2)))

    def test_no_thing(self):
        for change in (without, granted):
            for house in small_houses():
                for value in no_things(house[0]):
                    self.refused(NoThing, change, house, value)
            self.refused(NoThing, change, (2, (0, 3, 4, 5)), True)
            self.refused(NoThing, change, (2, (0, 3, 4, 5)), False)

    def test_of_one_thing(self):
        for worth in (0, 7, -7, EDGE, -EDGE):
            for change in (without, granted):
                self.refused(TooFew, change, (1, (0, worth)), 0)
                for value in no_things(1):
                    self.refused(NoThing, change, (1, (0, worth)), value)

    def test_granted_just_at_the_bound(self):
        self.assertEqual(granted((2, (0, 1, EDGE, EDGE)), 0), (1, (0, EDGE - 1)))
        self.assertEqual(granted((2, (0, -1, EDGE, EDGE - 1)), 0), (1, (0, EDGE)))
        self.refused(TooGreat, granted, (2, (0, -2, EDGE, EDGE - 1)), 0)
        self.assertEqual(granted((2, (0, 5, 0, 5 - EDGE)), 0), (1, (0, -EDGE)))
        self.refused(TooGreat, granted, (2, (0, 5, 0, 4 - EDGE)), 0)


class TogetherTest(ChangesCase):
    def test_set_by_set(self):
        for many, worths in small_houses() + seven_houses() + ten_houses()[:1]:
            for one, other in itertools.permutations(range(many), 2):
                lesser, greater = sorted((one, other))
                due = []
                for number in range(2 ** (many - 1)):
                    stead = old_set(number, greater)
                    due.append(worths[stead | 2 ** greater if number & 2 ** lesser else stead])
                self.assertTrue(self.compare((many - 1, tuple(due)), together, (many, worths), one, other))

    def test_known_ones(self):
        house = (3, (0, 10, 20, 28, 40, 48, 58, 65))
        self.assertEqual(together(house, 0, 1), (2, (0, 28, 40, 65)))
        self.assertEqual(together(house, 0, 2), (2, (0, 48, 20, 65)))
        self.assertEqual(together(house, 2, 1), (2, (0, 10, 58, 65)))
        self.assertEqual(together((2, (0, 3, 4, 5)), 1, 0), (1, (0, 5)))

    def test_no_thing(self):
        for house in small_houses():
            for value in no_things(house[0]):
                for thing in range(house[0]):
                    self.refused(NoThing, together, house, thing, value)
                    self.refused(NoThing, together, house, value, thing)
                self.refused(NoThing, together, house, value, value)
            for thing in range(house[0]):
                self.refused(NoThing, together, house, thing, thing)

    def test_of_one_thing_whatever_is_named(self):
        for value in [0, 1, *no_things(1)]:
            for other in [0, 1, *no_things(1)]:
                self.refused(NoThing, together, (1, (0, 7)), value, other)

    def test_truths(self):
        for one, other in ((0, True), (False, 1), (True, 0), (1, False), (False, True)):
            self.refused(NoThing, together, (2, (0, 3, 4, 5)), one, other)


class WithThingTest(ChangesCase):
    def test_back_from_without(self):
        for house in small_houses() + seven_houses() + ten_houses()[:1]:
            if house[0] > 1:
                last = house[0] - 1
                worths = house[1][2 ** last:]
                self.assertEqual(self.told(with_thing, without(house, last), worths), house)
                self.assertEqual(without(with_thing(without(house, last), worths), last), without(house, last))

    def test_without_behind_it(self):
        dice = random.Random(801)
        for house in some_houses():
            if max(map(abs, house[1])) < EDGE:
                # A thing that brings each set as much, and one that brings less the more there are.
                for gains in ((dice.randint(-9, 9),) * 6, (9, 7, 4, 1, -2, -9)):
                    worths = tuple(worth + gains[bits(number)] for number, worth in enumerate(house[1]))
                    more = self.told(with_thing, house, worths)
                    self.assertEqual(more, (house[0] + 1, house[1] + worths))
                    self.assertEqual(without(more, house[0]), house)

    def test_no_house(self):
        house = (2, (0, 3, 4, 5))
        right = (2, 4, 5, 6)
        self.assertEqual(with_thing(house, right), (3, (0, 3, 4, 5, 2, 4, 5, 6)))
        for value in [right[:-1], right + (0,), (), list(right), right * 2, {0: 2}, *no_numbers(), FAR, "2 4 5 6", (right,),
                      tuple(range(20000)), nested(29), (2, (4, 5, 6)), house]:
            self.refused(NoHouse, with_thing, house, value)
        for at in range(4):
            for value in [*no_numbers(), EDGE + 1, -EDGE - 1, FAR, -FAR, nested(28)]:
                self.refused(NoHouse, with_thing, house, changed(right, at, value))

    def test_a_worth_at_the_bound(self):
        self.assertEqual(with_thing((1, (0, 5)), (EDGE, 7)), (2, (0, 5, EDGE, 7)))
        self.refused(NoHouse, with_thing, (1, (0, 5)), (EDGE + 1, 7))
        self.assertEqual(with_thing((1, (0, 5)), (0, -EDGE)), (2, (0, 5, 0, -EDGE)))
        # Not too great for a house that it could be put into, but for this one's gains.
        self.refused(NoHouse, with_thing, (1, (0, 5)), (0, -EDGE - 1))

    def test_crossing(self):
        error = self.refused(Crossing, with_thing, (1, (0, 5)), (2, 8))
        self.assertEqual((error.where, error.one, error.other), (0, 0, 1))
        dice = random.Random(802)
        seen = set()
        for turn in range(200):
            house = drawn_house(dice, dice.randint(1, 4))
            many = house[0]
            drop = dice.randint(0, 3)
            worths = tuple(worth + 5 - drop * bits(number) for number, worth in enumerate(house[1]))
            at = dice.randrange(len(worths))
            worths = changed(worths, at, worths[at] + dice.choice((-9, -4, 4, 9)))
            due = first_crossing(many + 1, house[1] + worths)
            if due is None:
                self.told(with_thing, house, worths)
            else:
                error = self.refused(Crossing, with_thing, house, worths)
                self.assertEqual((error.where, error.one, error.other), due)
            seen.add(due)
        self.assertGreater(len(seen), 12)

    def test_of_ten_things(self):
        house = ten_houses()[0]
        for value in [house[1], house[1][:-1], (), None, True, 0, "x", [], nested(29), (EDGE + 1,) * 1024]:
            self.refused(TooMany, with_thing, house, value)
        nine = without(house, 4)
        self.assertEqual(with_thing(nine, nine[1])[0], 10)


def first_crossing(many, worths):
    """The first set, thing and greater thing of which gains do not fall."""
    for number in range(2 ** many):
        for one, other in itertools.combinations([thing for thing in range(many) if not number & 2 ** thing], 2):
            both = worths[number | 2 ** one | 2 ** other] + worths[number]
            if worths[number | 2 ** one] + worths[number | 2 ** other] < both:
                return (number, one, other)
    return None


class TwoHousesTest(ChangesCase):
    def test_beside(self):
        seen = {True: 0, False: 0}
        for one in small_houses():
            for other in small_houses()[::3]:
                many = one[0] + other[0]
                due = []
                for number in range(2 ** many):
                    due.append(one[1][number & whole_set(one[0])] + other[1][number >> one[0]])
                seen[self.compare((many, tuple(due)), beside, one, other)] += 1
        self.assertGreater(min(seen.values()), 20)

    def test_beside_known_ones(self):
        self.assertEqual(beside((1, (0, 5)), (2, (0, 30, 40, 60))), (3, (0, 5, 30, 35, 40, 45, 60, 65)))
        self.assertEqual(beside((2, (0, 30, 40, 60)), (1, (0, 5))), (3, (0, 30, 40, 60, 5, 35, 45, 65)))

    def test_beside_too_many(self):
        for one, other in itertools.product(range(1, 11), repeat=2):
            if one + other > 10:
                self.refused(TooMany, beside, noughts(one), counted(other, (1,) * other))
            elif one + other == 10:
                self.assertEqual(beside(noughts(one), noughts(other)), noughts(10))
        high = (6, (0,) + (EDGE,) * 63)
        self.refused(TooMany, beside, high, high)

    def test_beside_at_the_bound(self):
        self.assertEqual(beside((1, (0, EDGE - 3)), (1, (0, 3))), (2, (0, EDGE - 3, 3, EDGE)))
        self.refused(TooGreat, beside, (1, (0, EDGE - 3)), (1, (0, 4)))
        self.assertEqual(beside((1, (0, 3 - EDGE)), (1, (0, -3)))[1][3], -EDGE)
        self.refused(TooGreat, beside, (1, (0, 3 - EDGE)), (1, (0, -4)))
        self.assertEqual(beside((1, (0, EDGE)), (1, (0, -EDGE))), (2, (0, EDGE, -EDGE, 0)))

    def test_added(self):
        seen = {True: 0, False: 0}
        for one, other in itertools.product(small_houses(), repeat=2):
            if one[0] == other[0]:
                seen[self.compare(joined(one, other), added, one, other)] += 1
                if max(map(abs, joined(one, other)[1])) <= EDGE:
                    self.assertEqual(added(one, other), added(other, one))
            else:
                self.refused(NoFit, added, one, other)
        self.assertGreater(min(seen.values()), 10)
        self.told(added, *ten_houses()[:2])

    def test_added_no_fit_ahead_of_too_great(self):
        for one, other in itertools.permutations(range(1, 11), 2):
            self.refused(NoFit, added, (one, (0,) + (EDGE,) * (2 ** one - 1)), (other, (0,) + (EDGE,) * (2 ** other - 1)))

    def test_added_at_the_bound(self):
        self.assertEqual(added((1, (0, EDGE - 3)), (1, (0, 3))), (1, (0, EDGE)))
        self.refused(TooGreat, added, (1, (0, EDGE - 3)), (1, (0, 4)))
        self.assertEqual(added((1, (0, 3 - EDGE)), (1, (0, -3))), (1, (0, -EDGE)))
        self.refused(TooGreat, added, (1, (0, 3 - EDGE)), (1, (0, -4)))


class TurnedTest(ChangesCase):
    def test_set_by_set(self):
        seen = {True: 0, False: 0}
        for many, worths in small_houses() + seven_houses() + ten_houses():
            due = tuple(worths[whole_set(many) - number] - worths[-1] for number in range(2 ** many))
            seen[self.compare((many, due), turned, (many, worths))] += 1
        self.assertGreater(min(seen.values()), 3)

    def test_twice(self):
        for house in some_houses() + seven_houses() + ten_houses():
            if max(map(abs, house[1])) < EDGE // 2:
                self.assertEqual(turned(turned(house)), house)

    def test_least_sets(self):
        for house in some_houses() + seven_houses():
            if max(map(abs, house[1])) < EDGE // 2:
                rests = sorted(whole_set(house[0]) - number for number in least_by_all(house))
                self.assertEqual(list(least_sets(turned(house))), rests)

    def test_at_the_bound(self):
        self.assertEqual(turned((1, (0, EDGE))), (1, (0, -EDGE)))
        self.assertEqual(turned((1, (0, -EDGE))), (1, (0, EDGE)))
        self.assertEqual(turned((2, (0, EDGE - 5, 0, -5))), (2, (0, 5, EDGE, 5)))
        self.refused(TooGreat, turned, (2, (0, EDGE - 5, 0, -6)))
        # A set's rest lacks of all things no more than the set's worth, so that none comes to be too low.
        self.assertEqual(turned((2, (0, EDGE, -5, EDGE - 5))), (2, (0, -EDGE, 5, 5 - EDGE)))


def fold_by_words(house, prices):
    """For each set the least, over all sets within it, of the worth and the prices of the rest."""
    told = []
    for number in range(2 ** house[0]):
        parts = [part for part in range(number + 1) if part & number == part]
        told.append(min(house[1][part] + cost(prices, number - part) for part in parts))
    return (house[0], tuple(told))


def bad_prices(many):
    right = (3,) * many
    values = [right + (0,), right[:-1], list(right), (right,), dict(enumerate(right)), *no_numbers(), FAR, nested(29), "3"]
    for at in range(many):
        for value in (BOUND + 1, -BOUND - 1, FAR, -FAR, True, False, None, "3", (3,), [3], 10 ** 15):
            values.append(changed(right, at, value))
    return [value for value in values if value != (1,) or many != 1]


class PricesTest(ChangesCase):
    def test_folded(self):
        dice = random.Random(803)
        changing = 0
        for house in some_houses():
            for spread in (3, 9, BOUND):
                prices = tuple(dice.randint(-spread, spread) for thing in range(house[0]))
                self.compare(fold_by_words(house, prices), folded, house, prices)
                changing += fold_by_words(house, prices) != house
        self.assertGreater(changing, 20)
        for house in seven_houses():
            prices = tuple(dice.randint(-4, 9) for thing in range(7))
            self.compare(fold_by_words(house, prices), folded, house, prices)
        for house in ten_houses()[:2]:
            prices = tuple(dice.randint(-2, 5) for thing in range(10))
            self.compare(fold_by_words(house, prices), folded, house, prices)

    def test_folded_twice_by_the_same(self):
        dice = random.Random(804)
        for house in some_houses():
            if max(map(abs, house[1])) < EDGE // 2:
                prices = tuple(dice.randint(-5, 5) for thing in range(house[0]))
                once = folded(house, prices)
                self.assertEqual(folded(once, prices), once)

    def test_rows_below_what_is_folded(self):
        dice = random.Random(805)
        seen = {True: 0, False: 0}
        for house in some_houses()[3:]:
            prices = tuple(dice.randint(-5, 5) for thing in range(house[0]))
            for row in full_rows(dice, house, 2):
                less = dice.randint(0, 6)
                low = (tuple(number - less * row[1] for number in row[0]), row[1])
                below = all(number <= price * low[1] for number, price in zip(low[0], prices))
                self.assertIs(is_below(folded(house, prices), low), below and is_below(house, low))
                seen[below and is_below(house, low)] += 1
        self.assertGreater(min(seen.values()), 10)

    def test_priced(self):
        dice = random.Random(806)
        for house in small_houses() + seven_houses() + ten_houses():
            for spread in (0, 9, BOUND):
                prices = tuple(dice.randint(-spread, spread) for thing in range(house[0]))
                due = tuple(worth - cost(prices, number) for number, worth in enumerate(house[1]))
                self.compare((house[0], due), priced, house, prices)

    def test_priced_twice(self):
        dice = random.Random(807)
        for house in some_houses():
            if max(map(abs, house[1])) < EDGE // 2:
                prices = tuple(dice.randint(-BOUND, BOUND) for thing in range(house[0]))
                other = tuple(-price for price in prices)
                self.assertEqual(priced(priced(house, prices), other), house)

    def test_priced_by_turning(self):
        # Where a thing has its turning for a price, some least sets have it, and others not.
        for house in some_houses()[3:]:
            for thing in range(house[0]):
                prices = changed((0,) * house[0], thing, turning(house, thing))
                told = [bool(number & 2 ** thing) for number in least_sets(priced(house, prices))]
                self.assertEqual(set(told), {True, False})

    def test_no_prices(self):
        for change in (folded, priced):
            for house in [(1, (0, EDGE)), (2, (0, 3, 4, 5)), (2, (0, EDGE, EDGE, -EDGE)), noughts(10)]:
                for value in bad_prices(house[0]):
                    self.refused(NoPrices, change, house, value)

    def test_prices_at_the_bound(self):
        house = (2, (0, 3, 4, 5))
        self.assertEqual(priced(house, (BOUND, -BOUND)), (2, (0, 3 - BOUND, 4 + BOUND, 5)))
        self.assertEqual(folded(house, (BOUND, -BOUND)), (2, (0, 3, -BOUND, 3 - BOUND)))

    def test_too_great(self):
        self.assertEqual(priced((1, (0, EDGE - 7)), (-7,)), (1, (0, EDGE)))
        self.refused(TooGreat, priced, (1, (0, EDGE - 7)), (-8,))
        self.assertEqual(priced((1, (0, 7 - EDGE)), (7,)), (1, (0, -EDGE)))
        self.refused(TooGreat, priced, (1, (0, 7 - EDGE)), (8,))
        house = (2, (0, 7 - EDGE, 0, 7 - EDGE))
        self.assertEqual(folded(house, (0, -7)), (2, (0, 7 - EDGE, -7, -EDGE)))
        self.refused(TooGreat, folded, house, (0, -8))
        self.refused(NoPrices, folded, house, (0, -BOUND - 1))
        self.refused(NoPrices, priced, (1, (0, -EDGE)), (BOUND + 1,))


class InAnotherTurnTest(ChangesCase):
    def houses(self):
        return [house for house in some_houses() + seven_houses()[:1] if house[0] > 2]

    def test_two_things_go(self):
        for house in self.houses():
            for one, other in itertools.combinations(range(house[0]), 2):
                for change, again in itertools.product((without, granted), repeat=2):
                    # The greater goes first, or the lesser, behind which its number is less by one.
                    self.assertEqual(again(change(house, other), one), change(again(house, one), other - 1))

    def test_together_by_both_orders(self):
        for house in self.houses():
            for one, other in itertools.combinations(range(house[0]), 2):
                self.assertEqual(together(house, one, other), together(house, other, one))
            three = together(together(house, 0, 1), 0, 1)
            self.assertEqual(three, together(together(house, 1, 2), 0, 1))
            self.assertEqual(three, together(together(house, 0, 2), 1, 0))

    def test_turned_exchanges_granted_and_without(self):
        for house in self.houses():
            for thing in range(house[0]):
                self.assertEqual(turned(granted(house, thing)), without(turned(house), thing))
                self.assertEqual(turned(without(house, thing)), granted(turned(house), thing))

    def test_turned_and_priced(self):
        dice = random.Random(808)
        for house in self.houses():
            prices = tuple(dice.randint(-9, 9) for thing in range(house[0]))
            other = tuple(-price for price in prices)
            self.assertEqual(turned(priced(house, prices)), priced(turned(house), other))

    def test_priced_and_added(self):
        dice = random.Random(809)
        for house in self.houses():
            prices = tuple(dice.randint(-9, 9) for thing in range(house[0]))
            other = summed(house[0], tuple(-price for price in prices))
            self.assertEqual(priced(house, prices), added(house, other))

    def test_beside_and_without(self):
        for house in self.houses():
            if house[0] < 6:
                two = beside(house, (2, (0, 3, 4, 5)))
                self.assertEqual(without(without(two, house[0]), house[0]), house)
                rest = two
                for thing in range(house[0]):
                    rest = granted(rest, 0)
                self.assertEqual(rest, (2, (0, 3, 4, 5)))

    def test_a_chain_of_all_stays_a_house(self):
        dice = random.Random(810)
        for turn in range(60):
            house = drawn_house(dice, dice.randint(2, 5))
            for step in range(8):
                house = self.drawn_change(dice, house)
                self.assertIs(check_house(house), True)

    def drawn_change(self, dice, house):
        many = house[0]
        prices = tuple(dice.randint(-5, 5) for thing in range(many))
        kind = dice.randrange(8)
        if kind < 3 and many > 2:
            one, other = dice.sample(range(many), 2)
            return (without(house, one), granted(house, one), together(house, one, other))[kind]
        if kind == 3 and many < 6:
            return beside(house, drawn_house(dice, 1))
        if kind == 4:
            return added(house, covered(many, (1, whole_set(many))))
        return (turned(house), folded(house, prices), priced(house, prices))[kind % 3]


if __name__ == "__main__":
    unittest.main()
