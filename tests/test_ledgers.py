"""Ledgers: point 32."""

import random
import unittest

from examples import (BOUND, EDGE, FAR, bits, changed, cost, covered, drawn_house, least_by_all, lowest_by_all, nested,
                      no_numbers, noughts, paid, some_houses, summed, ten_houses)
from fallgain.changes import priced
from fallgain.errors import NoPrices, NoThing, TooGreat
from fallgain.family import highest, least_sets, lowest, turning
from fallgain.halls import Hall
from fallgain.houses import check_house
from fallgain.least import least
from fallgain.ledgers import Ledger
from fallgain.leastpaper import right_least

HOUSE = (3, (0, 7, 8, 12, 9, 13, 14, 15))


class PricesTest(unittest.TestCase):
    def test_at_first_nought(self):
        for house in some_houses() + ten_houses():
            ledger = Ledger(Hall(house))
            self.assertEqual(ledger.prices(), (0,) * house[0])
            self.assertIs(type(ledger.prices()), tuple)

    def test_set_price_tells_the_one_it_had(self):
        ledger = Ledger(Hall(HOUSE))
        self.assertEqual(ledger.set_price(1, 5), 0)
        self.assertEqual(ledger.set_price(1, -7), 5)
        self.assertEqual(ledger.set_price(1, -7), -7)
        self.assertEqual(ledger.set_price(2, BOUND), 0)
        self.assertEqual(ledger.set_price(0, -BOUND), 0)
        self.assertEqual(ledger.prices(), (-BOUND, -7, BOUND))
        self.assertEqual(ledger.prices(), (-BOUND, -7, BOUND))
        self.assertEqual(ledger.set_price(2, 0), BOUND)
        self.assertEqual(ledger.prices(), (-BOUND, -7, 0))

    def test_refused(self):
        ledger = Ledger(Hall(HOUSE))
        ledger.set_price(1, 5)
        numbers = [BOUND + 1, -BOUND - 1, FAR, -FAR, *no_numbers(), nested(29)]
        for value in [3, 4, -1, FAR, -FAR, *no_numbers(), nested(29)]:
            for price in [0, 5, *numbers]:
                with self.assertRaises(NoThing):
                    ledger.set_price(value, price)
        for thing in range(3):
            for price in numbers:
                with self.assertRaises(NoPrices):
                    ledger.set_price(thing, price)
        self.assertEqual(ledger.prices(), (0, 5, 0))

    def test_setting_is_no_deed(self):
        hall = Hall(HOUSE)
        ledger = Ledger(hall)
        ledger.set_price(0, 5)
        self.assertEqual(hall.deeds(), 0)
        self.assertEqual(hall.house(), HOUSE)

    def test_none_of_one_anothers(self):
        hall = Hall(HOUSE)
        ledgers = [Ledger(hall) for turn in range(4)]
        for at, ledger in enumerate(ledgers):
            ledger.set_price(at - 1 if at else 0, at + 10)
        self.assertEqual([ledger.prices() for ledger in ledgers], [(10, 0, 0), (11, 0, 0), (0, 12, 0), (0, 0, 13)])
        other = Ledger(hall.copied())
        self.assertEqual(other.prices(), (0, 0, 0))
        hall.go(0)
        self.assertEqual(other.prices(), (0, 0, 0))
        self.assertEqual([ledger.prices() for ledger in ledgers], [(0, 0), (0, 0), (12, 0), (0, 13)])


def drawn_deed(dice, hall):
    """Do a deed to the hall; tell what becomes of prices by it."""
    many = hall.house()[0]
    thing, other = dice.randrange(many), dice.randrange(many)
    word = dice.choice(("come", "go", "grant", "join", "pay", "turn", "add"))
    if word == "come" and many < 6:
        hall.come(tuple(worth - bits(number) for number, worth in enumerate(hall.house()[1])))
        return lambda prices: prices + (0,)
    if word in ("go", "grant") and many > 1:
        getattr(hall, word)(thing)
        return lambda prices: prices[:thing] + prices[thing + 1:]
    if word == "join" and thing != other:
        hall.join(thing, other)
        return lambda prices: joined_prices(prices, thing, other)
    if word == "pay":
        hall.pay(tuple(dice.randint(-9, 9) for at in range(many)))
        return lambda prices: prices
    if word == "add":
        hall.add(covered(many, (1, 2 ** many - 1)))
        return lambda prices: prices
    hall.turn()
    return lambda prices: tuple(-price for price in prices)


def joined_prices(prices, one, other):
    lesser, greater = sorted((one, other))
    told = [price for thing, price in enumerate(prices) if thing != greater]
    told[lesser] = prices[one] + prices[other]
    return tuple(told)


class DeedsTest(unittest.TestCase):
    def both(self):
        """A hall with two ledgers that have prices."""
        hall = Hall(HOUSE)
        ledgers = [Ledger(hall), Ledger(hall)]
        for thing in range(3):
            ledgers[0].set_price(thing, thing + 1)
            ledgers[1].set_price(thing, -100 * thing - 1)
        return hall, ledgers

    def after(self, word, *given):
        hall, ledgers = self.both()
        getattr(hall, word)(*given)
        told = [ledger.prices() for ledger in ledgers]
        ledgers[0].set_price(0, 77)
        hall.back()
        # Whatever they were set to since, they are what they were.
        self.assertEqual([ledger.prices() for ledger in ledgers], [(1, 2, 3), (-1, -101, -201)])
        return told

    def test_each_deed_and_its_back(self):
        worths = (2, 8, 9, 12, 10, 13, 14, 14)
        self.assertEqual(self.after("come", worths), [(1, 2, 3, 0), (-1, -101, -201, 0)])
        for word in ("go", "grant"):
            self.assertEqual(self.after(word, 0), [(2, 3), (-101, -201)])
            self.assertEqual(self.after(word, 1), [(1, 3), (-1, -201)])
            self.assertEqual(self.after(word, 2), [(1, 2), (-1, -101)])
        for one, other, due in ((0, 1, [(3, 3), (-102, -201)]), (0, 2, [(4, 2), (-202, -101)]),
                                (1, 2, [(1, 5), (-1, -302)])):
            self.assertEqual(self.after("join", one, other), due)
            self.assertEqual(self.after("join", other, one), due)
        self.assertEqual(self.after("pay", (5, 6, 7)), [(1, 2, 3), (-1, -101, -201)])
        self.assertEqual(self.after("add", HOUSE), [(1, 2, 3), (-1, -101, -201)])
        self.assertEqual(self.after("turn"), [(-1, -2, -3), (1, 101, 201)])

    def test_refused_deeds_change_nothing(self):
        hall, ledgers = self.both()
        for word, given in (("come", (None,)), ("go", (3,)), ("grant", (True,)), ("join", (1, 1)), ("pay", ((1, 2),)),
                            ("add", ((1, (0, 5)),)), ("back", ())):
            with self.assertRaises(ValueError):
                getattr(hall, word)(*given)
            self.assertEqual([ledger.prices() for ledger in ledgers], [(1, 2, 3), (-1, -101, -201)])

    def test_a_ledger_made_behind_the_deed_that_is_taken_back(self):
        for word, given, size in (("pay", ((1, 2, 3),), 3), ("go", (0,), 2), ("turn", (), 3),
                                  ("come", ((2, 8, 9, 12, 10, 13, 14, 14),), 4)):
            hall = Hall(HOUSE)
            early = Ledger(hall)
            early.set_price(2, 9)
            getattr(hall, word)(*given)
            late = Ledger(hall)
            self.assertEqual(late.prices(), (0,) * size)
            late.set_price(1, 55)
            hall.back()
            self.assertEqual(late.prices(), (0, 0, 0))
            self.assertEqual(early.prices(), (0, 0, 9))
            self.assertEqual(late.set_price(0, 4), 0)
            self.assertEqual(late.prices(), (4, 0, 0))

    def test_made_between_two_deeds(self):
        hall = Hall(HOUSE)
        hall.turn()
        ledger = Ledger(hall)
        ledger.set_price(0, 6)
        hall.turn()
        self.assertEqual(ledger.prices(), (-6, 0, 0))
        ledger.set_price(1, 8)
        hall.back()
        self.assertEqual(ledger.prices(), (6, 0, 0))
        hall.back()
        self.assertEqual(ledger.prices(), (0, 0, 0))

    def test_back_of_sixty_and_more(self):
        hall = Hall(HOUSE)
        ledger = Ledger(hall)
        for step in range(70):
            ledger.set_price(0, step)
            hall.pay((0, 0, 0))
        for step in range(69, 9, -1):
            hall.back()
            self.assertEqual(ledger.prices(), (step, 0, 0))

    def test_many_deeds(self):
        dice = random.Random(1001)
        for turn in range(40):
            hall = Hall(drawn_house(dice, dice.randint(1, 4)))
            ledgers, books, past = [], [], []
            for step in range(40):
                self.one_step(dice, hall, ledgers, books, past)
                self.assertEqual([ledger.prices() for ledger in ledgers], books)

    def one_step(self, dice, hall, ledgers, books, past):
        kind = dice.randrange(8)
        if kind == 0:
            ledgers.append(Ledger(hall))
            books.append((0,) * hall.house()[0])
        elif kind <= 3 and ledgers:
            at, thing, price = dice.randrange(len(ledgers)), dice.randrange(hall.house()[0]), dice.randint(-20, 20)
            self.assertEqual(ledgers[at].set_price(thing, price), books[at][thing])
            books[at] = changed(books[at], thing, price)
        elif kind == 4 and past:
            hall.back()
            kept = past.pop()
            books[:] = kept + [(0,) * hall.house()[0]] * (len(books) - len(kept))
        else:
            past.append(list(books))
            change = drawn_deed(dice, hall)
            books[:] = [change(prices) for prices in books]

    def test_prices_beyond_what_can_be_set(self):
        hall = Hall(noughts(5))
        ledger = Ledger(hall)
        for thing in range(5):
            ledger.set_price(thing, BOUND)
        for size in (4, 3, 2, 1):
            hall.join(0, 1)
            self.assertEqual(ledger.prices(), ((6 - size) * BOUND,) + (BOUND,) * (size - 1))
        self.assertEqual(ledger.least()[0], 1)
        self.assertEqual(ledger.turning(0), -5 * BOUND)
        hall.turn()
        self.assertEqual(ledger.prices(), (-5 * BOUND,))
        self.assertEqual(ledger.set_price(0, BOUND), -5 * BOUND)
        with self.assertRaises(NoPrices):
            ledger.set_price(0, -5 * BOUND)
        hall.back()
        self.assertEqual(ledger.prices(), (5 * BOUND,))


class AskedTest(unittest.TestCase):
    def compare(self, house, ledger):
        """Hold what the ledger tells against the house less its prices."""
        due = paid(house, ledger.prices())
        self.assertIs(check_house(due), True)
        self.assertEqual(ledger.least(), least(due))
        self.assertEqual(ledger.least()[0], least_by_all(due)[0])
        self.assertIs(right_least(due, ledger.least()), True)
        self.assertEqual(ledger.lowest(), lowest(due))
        self.assertEqual(ledger.lowest(), lowest_by_all(due))
        self.assertEqual(ledger.highest(), highest(due))
        self.assertEqual(ledger.least_sets(), least_sets(due))
        self.assertEqual(list(ledger.least_sets()), least_by_all(due))
        for thing in range(house[0]):
            self.assertEqual(ledger.turning(thing), turning(due, thing))

    def test_houses_and_prices(self):
        dice = random.Random(1002)
        for house in some_houses()[3:] + ten_houses()[:1]:
            hall = Hall(house)
            ledger, other = Ledger(hall), Ledger(hall)
            self.compare(house, ledger)
            for turn in range(3):
                for thing in range(house[0]):
                    ledger.set_price(thing, dice.randint(-9, 9))
                    other.set_price(thing, dice.randint(-9, 9))
                self.compare(house, ledger)
                self.compare(house, other)
            self.assertEqual(hall.house(), house)
            self.assertEqual(ledger.least()[0], least(priced(house, ledger.prices()))[0])

    def test_behind_deeds(self):
        dice = random.Random(1003)
        for turn in range(25):
            hall = Hall(drawn_house(dice, dice.randint(2, 4)))
            ledgers = [Ledger(hall), Ledger(hall)]
            for step in range(6):
                for ledger in ledgers:
                    ledger.set_price(dice.randrange(hall.house()[0]), dice.randint(-9, 9))
                drawn_deed(dice, hall)
                if dice.randrange(4) == 0:
                    hall.back()
                for ledger in ledgers:
                    self.compare(hall.house(), ledger)

    def test_turning_of_no_thing(self):
        ledger = Ledger(Hall(HOUSE))
        for value in [3, 4, -1, FAR, -FAR, *no_numbers(), nested(29)]:
            with self.assertRaises(NoThing):
                ledger.turning(value)

    def too_great(self, ledger):
        for ask in (ledger.least, ledger.lowest, ledger.highest, ledger.least_sets):
            with self.assertRaises(TooGreat):
                ask()
        many = len(ledger.prices())
        for thing in range(many):
            with self.assertRaises(TooGreat):
                ledger.turning(thing)
        for value in [many, -1, FAR, *no_numbers()]:
            with self.assertRaises(NoThing):
                ledger.turning(value)

    def test_too_great(self):
        house = (2, (0, EDGE - 4, EDGE - 4, 3 - EDGE))
        hall = Hall(house)
        ledger = Ledger(hall)
        self.compare(house, ledger)
        ledger.set_price(0, -4)
        self.compare(house, ledger)
        ledger.set_price(0, -5)
        self.too_great(ledger)
        self.assertEqual(ledger.prices(), (-5, 0))
        ledger.set_price(0, 3)
        self.compare(house, ledger)
        ledger.set_price(0, 4)
        self.too_great(ledger)
        # Another ledger of the hall is not in need of these prices, and the prices may be put right.
        self.compare(house, Ledger(hall))
        self.assertEqual(ledger.set_price(0, 0), 4)
        self.compare(house, ledger)

    def test_too_great_by_joined_prices(self):
        many = 10
        house = summed(many, (EDGE // many,) * many)
        hall = Hall(house)
        ledger = Ledger(hall)
        for thing in range(many):
            ledger.set_price(thing, -BOUND)
        self.too_great(ledger)
        for size in range(many - 1, 0, -1):
            hall.join(0, size)
        self.assertEqual(ledger.prices(), (-10 * BOUND,))
        self.too_great(ledger)
        hall.turn()
        self.assertEqual(hall.house(), (1, (0, -EDGE)))
        self.assertEqual(ledger.prices(), (10 * BOUND,))
        self.too_great(ledger)
        ledger.set_price(0, -1)
        self.assertEqual(ledger.least()[0], 1)
        self.assertEqual(ledger.turning(0), cost((1 - EDGE,), 1))


class SharedTest(unittest.TestCase):
    def test_ledgers_of_several_halls(self):
        one, other = Hall(HOUSE), Hall(noughts(2))
        first, second = Ledger(one), Ledger(other)
        first.set_price(0, 5)
        second.set_price(1, 6)
        other.turn()
        self.assertEqual((first.prices(), second.prices()), ((5, 0, 0), (0, -6)))
        one.go(0)
        self.assertEqual((first.prices(), second.prices()), ((0, 0), (0, -6)))

    def test_a_closed_ledger_leaves_the_others_as_they_are(self):
        hall = Hall(HOUSE)
        first, second = Ledger(hall), Ledger(hall)
        first.set_price(0, 5)
        second.set_price(1, 6)
        hall.turn()
        first.close()
        # Else a hall would go on with the prices of each ledger that it ever had.
        self.assertEqual(len(hall.books), 1)
        third = Ledger(hall)
        self.assertEqual((second.prices(), third.prices()), ((0, -6, 0), (0, 0, 0)))
        third.set_price(0, 8)
        hall.turn()
        self.assertEqual((second.prices(), third.prices()), ((0, 6, 0), (-8, 0, 0)))
        hall.back()
        hall.back()
        self.assertEqual((second.prices(), third.prices()), ((0, 6, 0), (0, 0, 0)))

    def test_all_see_each_deed(self):
        hall = Hall(HOUSE)
        ledgers = [Ledger(hall) for turn in range(3)]
        hall.pay((100, 0, 0))
        for ledger in ledgers:
            self.assertEqual(ledger.lowest(), 1)
        hall.back()
        for ledger in ledgers:
            self.assertEqual(ledger.lowest(), 0)


if __name__ == "__main__":
    unittest.main()
