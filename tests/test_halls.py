"""Halls: point 31."""

import copy
import random
import unittest

from examples import (BOUND, EDGE, FAR, bits, counted, covered, drawn_house, edge_houses, nested, no_numbers, noughts,
                      some_houses, summed, ten_houses)
from fallgain.changes import added, granted, priced, together, turned, with_thing, without
from fallgain.errors import (Crossing, GainError, NoFit, NoHouse, NoPrices, NothingBack, NoThing, TooFew, TooGreat,
                             TooMany)
from fallgain.halls import Hall
from fallgain.houses import check_house

HOUSE = (3, (0, 7, 8, 12, 9, 13, 14, 15))


def drawn_deed(dice, house):
    """A deed that may be done to the house, or refused: its name, what is handed in, and its change."""
    many = house[0]
    word = dice.choice(("come", "go", "grant", "join", "pay", "turn", "add"))
    thing, other = dice.randint(0, many), dice.randint(0, many)
    if word == "come":
        fall = dice.randint(-1, 3)
        return word, (tuple(worth + 4 - fall * bits(number) for number, worth in enumerate(house[1])),), with_thing
    if word in ("go", "grant"):
        return word, (thing,), without if word == "go" else granted
    if word == "join":
        return word, (thing, other), together
    if word == "pay":
        return word, (tuple(dice.randint(-9, 9) for at in range(many + dice.choice((0, 0, 0, 1)))),), priced
    if word == "turn":
        return word, (), turned
    return word, (drawn_house(dice, max(1, many - dice.choice((0, 0, 0, 1)))),), added


class DeedsTest(unittest.TestCase):
    def done(self, word, given, due):
        """Do one deed to a new hall of the house, and take it back."""
        hall = Hall(HOUSE)
        before = copy.deepcopy(given)
        told = getattr(hall, word)(*given)
        self.assertEqual(hall.house(), due)
        self.assertIs(check_house(hall.house()), True)
        self.assertEqual(hall.deeds(), 1)
        self.assertEqual(given, before)
        self.assertEqual(hall.back(), 0)
        self.assertEqual(hall.house(), HOUSE)
        self.assertEqual(hall.deeds(), 0)
        return told

    def test_each_deed_and_its_back(self):
        worths = (2, 8, 9, 12, 10, 13, 14, 14)
        self.assertEqual(self.done("come", (worths,), with_thing(HOUSE, worths)), 3)
        for thing in range(3):
            self.assertIsNone(self.done("go", (thing,), without(HOUSE, thing)))
            self.assertIsNone(self.done("grant", (thing,), granted(HOUSE, thing)))
            for other in range(3):
                if thing != other:
                    self.assertIsNone(self.done("join", (thing, other), together(HOUSE, thing, other)))
        self.assertIsNone(self.done("pay", ((3, -4, BOUND),), priced(HOUSE, (3, -4, BOUND))))
        self.assertIsNone(self.done("turn", (), turned(HOUSE)))
        self.assertIsNone(self.done("add", (covered(3, (1, 7)),), added(HOUSE, covered(3, (1, 7)))))

    def test_come_tells_the_number_of_the_new_thing(self):
        hall = Hall((1, (0, 5)))
        for number in range(1, 10):
            told = hall.come(tuple(worth + 3 for worth in hall.house()[1]))
            self.assertIs(type(told), int)
            self.assertEqual(told, number)
        self.assertEqual(hall.house()[0], 10)

    def test_many_deeds_against_the_changes(self):
        dice = random.Random(901)
        seen = {}
        for turn in range(60):
            house = drawn_house(dice, dice.randint(1, 4))
            hall, past = Hall(house), []
            for step in range(25):
                if dice.randrange(5) == 0:
                    self.go_back(hall, past)
                    house = past.pop() if past else house
                else:
                    house = self.do(dice, hall, house, past, seen)
                self.assertEqual(hall.house(), house)
                self.assertEqual(hall.deeds(), len(past))
                self.assertEqual(hall.deeds(), len(past))
        for word in ("come", "go", "grant", "join", "pay", "turn", "add"):
            self.assertGreater(seen[word, None], 20)
        for refusal in (("come", Crossing), ("go", NoThing), ("go", TooFew), ("grant", NoThing), ("grant", TooFew),
                        ("join", NoThing), ("pay", NoPrices), ("add", NoFit)):
            self.assertGreater(seen.get(refusal, 0), 1, refusal)

    def do(self, dice, hall, house, past, seen):
        word, given, change = drawn_deed(dice, house)
        # More than five things would take longer, and tell nothing more.
        if word == "come" and house[0] > 4:
            return house
        try:
            due, error = change(house, *given), None
        except GainError as refusal:
            due, error = house, type(refusal)
        if error is None:
            told = getattr(hall, word)(*given)
            self.assertEqual(told, house[0] if word == "come" else None)
            past.append(house)
        else:
            with self.assertRaises(error):
                getattr(hall, word)(*given)
        seen[word, error] = seen.get((word, error), 0) + 1
        return due

    def go_back(self, hall, past):
        if past:
            self.assertEqual(hall.back(), len(past) - 1)
        else:
            with self.assertRaises(NothingBack):
                hall.back()

    def test_made_of_any_house(self):
        for house in some_houses() + edge_houses() + ten_houses():
            hall = Hall(house)
            self.assertEqual(hall.house(), house)
            self.assertEqual(hall.house(), house)
            self.assertEqual(hall.deeds(), 0)


class BackTest(unittest.TestCase):
    def test_none(self):
        hall = Hall(HOUSE)
        for turn in range(3):
            with self.assertRaises(NothingBack):
                hall.back()
        hall.turn()
        self.assertEqual(hall.back(), 0)
        with self.assertRaises(NothingBack):
            hall.back()
        self.assertEqual(hall.house(), HOUSE)

    def test_more_than_sixty(self):
        for size in (59, 60, 61, 62, 200):
            hall = Hall(noughts(2))
            for step in range(size):
                self.assertEqual(hall.deeds(), min(step, 60))
                hall.add((2, (0, 1, 1, 2)))
            self.assertEqual(hall.house()[1], (0, size, size, 2 * size))
            for left in range(min(size, 60) - 1, -1, -1):
                self.assertEqual(hall.back(), left)
                self.assertEqual(hall.deeds(), left)
            kept = max(0, size - 60)
            self.assertEqual(hall.house()[1], (0, kept, kept, 2 * kept))
            with self.assertRaises(NothingBack):
                hall.back()

    def test_what_is_taken_back_makes_place(self):
        hall = Hall(noughts(1))
        for step in range(60):
            hall.pay((1,))
        hall.back()
        hall.pay((5,))
        self.assertEqual(hall.deeds(), 60)
        for step in range(60):
            hall.back()
        # Nothing was forgotten, for there were never more than sixty.
        self.assertEqual(hall.house(), noughts(1))

    def test_deeds_behind_a_back(self):
        hall = Hall(HOUSE)
        hall.go(0)
        hall.pay((1, 1))
        hall.back()
        hall.turn()
        self.assertEqual(hall.deeds(), 2)
        self.assertEqual(hall.back(), 1)
        self.assertEqual(hall.house(), without(HOUSE, 0))
        self.assertEqual(hall.back(), 0)
        self.assertEqual(hall.house(), HOUSE)


class RefusedTest(unittest.TestCase):
    def refused(self, house, error, word, *given):
        hall = Hall(house)
        hall.pay((1,) * house[0])
        hall.pay((-1,) * house[0])
        with self.assertRaises(error) as caught:
            getattr(hall, word)(*given)
        self.assertIs(type(caught.exception), error)
        self.assertEqual(hall.house(), house)
        self.assertEqual(hall.deeds(), 2)
        self.assertEqual(hall.back(), 1)
        self.assertEqual(hall.house(), priced(house, (1,) * house[0]))
        return caught.exception

    def test_anything(self):
        values = [3, -1, FAR, -FAR, *no_numbers(), nested(29)]
        for value in values:
            self.refused(HOUSE, NoThing, "go", value)
            self.refused(HOUSE, NoThing, "grant", value)
            self.refused(HOUSE, NoThing, "join", 0, value)
            self.refused(HOUSE, NoThing, "join", value, 0)
            self.refused(HOUSE, NoPrices, "pay", value)
            self.refused(HOUSE, NoHouse, "come", value)
        self.refused(HOUSE, NoThing, "join", 1, 1)

    def test_crossing(self):
        error = self.refused((1, (0, 5)), Crossing, "come", (2, 8))
        self.assertEqual((error.where, error.one, error.other), (0, 0, 1))

    def test_too_few_and_too_many(self):
        self.refused((1, (0, 5)), TooFew, "go", 0)
        self.refused((1, (0, 5)), TooFew, "grant", 0)
        self.refused((1, (0, 5)), NoThing, "go", 1)
        self.refused((1, (0, 5)), NoThing, "join", 0, 1)
        self.refused(noughts(10), TooMany, "come", (0,) * 1024)
        self.refused(noughts(10), TooMany, "come", None)

    def test_no_fit(self):
        for many in (1, 2, 4, 10):
            self.refused(HOUSE, NoFit, "add", counted(many, (1,) * many))

    def test_too_great(self):
        high = (2, (0, EDGE - 2, EDGE - 2, 3 - EDGE))
        self.refused(high, TooGreat, "turn")
        self.refused(high, TooGreat, "grant", 0)
        self.refused(high, TooGreat, "add", summed(2, (3, 0)))
        self.refused(high, TooGreat, "pay", (-3, 0))
        self.refused(high, NoPrices, "pay", (-BOUND - 1, 0))
        self.refused(high, NoHouse, "come", (0, 0, EDGE + 1, 0))


class CopiedTest(unittest.TestCase):
    def test_copied_halls_go_their_own_way(self):
        hall = Hall(HOUSE)
        hall.pay((1, 2, 3))
        other = hall.copied()
        self.assertIsInstance(other, Hall)
        self.assertEqual(other.house(), hall.house())
        self.assertEqual((hall.deeds(), other.deeds()), (1, 0))
        with self.assertRaises(NothingBack):
            other.back()
        other.go(0)
        self.assertEqual(hall.house(), priced(HOUSE, (1, 2, 3)))
        self.assertEqual(other.house(), without(priced(HOUSE, (1, 2, 3)), 0))
        hall.back()
        self.assertEqual(hall.house(), HOUSE)
        self.assertEqual((hall.deeds(), other.deeds()), (0, 1))
        self.assertEqual(other.house(), without(priced(HOUSE, (1, 2, 3)), 0))
        third = other.copied()
        self.assertEqual(third.house(), other.house())
        self.assertEqual(other.back(), 0)
        self.assertEqual(third.house(), without(priced(HOUSE, (1, 2, 3)), 0))

    def test_two_halls_of_one_house(self):
        one, other = Hall(HOUSE), Hall(HOUSE)
        one.turn()
        self.assertEqual(other.house(), HOUSE)
        self.assertEqual(other.deeds(), 0)


if __name__ == "__main__":
    unittest.main()
