"""The whole program: points 1 to 3, and the interface."""

import importlib
import inspect
import itertools
import random
import unittest
from fractions import Fraction

from examples import (cost, drawn_house, gains_along, houses_with_several, is_full_by_words, least_by_all, left_with_least,
                      noughts, prices_of, row_by_words, seven_houses, some_houses, summed, ten_houses, turned_signs,
                      whole_set)
from fallgain.apart import taken_apart
from fallgain.bars import family_of
from fallgain.below import is_full
from fallgain.between import between
from fallgain.changes import (added, beside, folded, granted, priced, together, turned, with_thing, without)
from fallgain.desk import Desk
from fallgain.errors import Crossing
from fallgain.family import highest, least_sets, lowest, needs, told_by, turning
from fallgain.familypaper import right_family
from fallgain.floorpaper import right_between
from fallgain.floors import is_floor
from fallgain.halls import Hall
from fallgain.houses import check_house
from fallgain.least import least, least_within
from fallgain.leastpaper import right_least
from fallgain.ledgers import Ledger
from fallgain.making import house_of, worth_by
from fallgain.mixtures import mixture_row
from fallgain.orders import order_row, stretched
from fallgain.rooms import room
from fallgain.steppaper import right_steps
from fallgain.steps import lean, levellest, steps_of
from fallgain.texts import house_text, mixture_text, pieces_text, read_house, read_mixture, read_pieces
from fallgain.two import common
from fallgain.twopaper import right_common
from fallgain.walkpaper import right_walk
from fallgain.walks import walk

# For each module its names, each with how many arguments it takes.
FUNCTIONS = {
    "sets": {"things_in": 1, "set_of": 1}, "houses": {"check_house": 1, "worth": 2, "gain": 3},
    "pieces": {"is_piece": 2, "worth_of": 3}, "making": {"house_of": 2, "worth_by": 3},
    "orders": {"is_order": 2, "order_row": 2, "best_order": 2, "stretched": 2},
    "fractions": {"lowest_terms": 2, "plus": 2, "times": 2, "is_less": 2}, "rows": {"is_row": 2, "price_of": 2},
    "below": {"is_below": 2, "is_full": 2, "passed": 2, "room_up": 3, "raised": 3},
    "mixtures": {"is_mixture": 2, "mixture_row": 2}, "apart": {"taken_apart": 2}, "leastpaper": {"right_least": 2},
    "familypaper": {"right_family": 2}, "least": {"least": 1, "least_within": 3},
    "family": {"lowest": 1, "highest": 1, "least_sets": 1, "needs": 1, "told_by": 3, "turning": 2},
    "bars": {"family_of": 1}, "steppaper": {"right_steps": 3}, "steps": {"steps_of": 2, "levellest": 2, "lean": 4},
    "twopaper": {"right_common": 3}, "two": {"common": 2}, "floors": {"is_floor": 1}, "floorpaper": {"right_between": 3},
    "between": {"between": 2}, "rooms": {"room": 4}, "walkpaper": {"right_walk": 4}, "walks": {"walk": 3},
    "changes": {"without": 2, "granted": 2, "together": 3, "with_thing": 2, "beside": 2, "added": 2, "turned": 1,
                "folded": 2, "priced": 2},
    "texts": {"house_text": 1, "pieces_text": 1, "mixture_text": 1, "read_house": 1, "read_pieces": 2, "read_mixture": 2},
}
CLASSES = {
    ("halls", "Hall", 1): {"house": 0, "come": 1, "go": 1, "grant": 1, "join": 2, "pay": 1, "turn": 0, "add": 1, "back": 0,
                           "deeds": 0, "copied": 0},
    ("ledgers", "Ledger", 1): {"set_price": 2, "prices": 0, "least": 0, "lowest": 0, "highest": 0, "least_sets": 0,
                               "turning": 1},
    ("desk", "Desk", 0): {"say": 1},
}


def size_of(function):
    """How many arguments a function takes."""
    return len(inspect.signature(function).parameters)


class InterfaceTest(unittest.TestCase):
    def test_functions(self):
        for module, names in FUNCTIONS.items():
            found = importlib.import_module("fallgain." + module)
            for name, size in names.items():
                self.assertEqual(size_of(getattr(found, name)), size, name)

    def test_classes(self):
        for (module, name, size), methods in CLASSES.items():
            found = getattr(importlib.import_module("fallgain." + module), name)
            self.assertEqual(size_of(found), size)
            for method, parts in methods.items():
                # Each stands in the class itself, and takes itself ahead of the others.
                self.assertEqual(size_of(vars(found)[method]), parts + 1, method)


def small_houses():
    return [house for house in some_houses() + houses_with_several()[::3] if max(map(abs, house[1])) < 10 ** 14]


class OneHouseTest(unittest.TestCase):
    """Of one house all papers, each let by its checker, and each against the others."""

    def papers(self, house):
        many, worths = house
        fewest = min(worths)
        number, mixture = least(house)
        self.assertIs(right_least(house, (number, mixture)), True)
        self.assertEqual(worths[number], fewest)
        self.family(house, number, mixture, fewest)
        self.price(house, fewest)
        self.two(house, fewest)
        self.walks(house, mixture)

    def family(self, house, number, mixture, fewest):
        paper = family_of(house)
        self.assertIs(right_family(house, paper), True)
        self.assertEqual(house[1][paper[0]], fewest)
        self.assertEqual((paper[2], paper[3]), (lowest(house), needs(house)))
        told = told_by(house[0], paper[2], paper[3])
        self.assertEqual(told, least_sets(house))
        self.assertEqual(told, tuple(least_by_all(house)))
        self.assertEqual(told[0], number)
        for one, other in itertools.product(told[:40], repeat=2):
            self.assertIn(one & other, told)
            self.assertIn(one | other, told)
        self.assertEqual((told[0], told[-1]), (lowest(house), highest(house)))
        self.assertEqual(least_within(house, 0, 0), (fewest, number))
        # By each least set's paper the same mixture shows it.
        for other in told[:8]:
            self.assertIs(right_least(house, (other, mixture)), True)

    def price(self, house, fewest):
        many = house[0]
        steps, mixture = steps_of(house, (1,) * many)
        self.assertIs(right_steps(house, (1,) * many, (steps, mixture)), True)
        row = levellest(house, (1,) * many)
        self.assertEqual(mixture_row(house, mixture), row)
        # By no price the sets that are left with least are the least ones.
        self.assertEqual(lean(house, (1,) * many, 0, 1), (lowest(house), highest(house)))
        below = [step[2] for step in steps if step[0] < 0]
        self.assertEqual(below[-1] if below else 0, lowest(house))
        up_to = [step[2] for step in steps if step[0] <= 0]
        self.assertEqual(up_to[-1] if up_to else 0, highest(house))
        # By the levellest row, too, the prices below 0 come to the least worth.
        self.assertEqual(sum(min(price, 0) for price in prices_of(row)), fewest)
        self.assertIs(right_least(house, (lowest(house), mixture)), True)

    def two(self, house, fewest):
        many = house[0]
        paper = common(house, noughts(many))
        self.assertIs(right_common(house, noughts(many), paper), True)
        self.assertEqual(sum(paper[0]), fewest)
        # The one's mixture is a paper for the least set, too: by its row no price below 0 is lower.
        self.assertIs(right_least(house, (paper[1], paper[2])), True)
        told = between(house, summed(many, paper[0]))
        self.assertEqual(told[:2], ("row", paper[0]))
        self.assertIs(right_between(house, summed(many, paper[0]), told), True)
        whole = common(house, house)
        self.assertEqual(sum(whole[0]), house[1][-1])
        self.assertIs(is_full(house, (whole[0], 1)), True)

    def walks(self, house, mixture):
        many = house[0]
        rows = [mixture_row(house, mixture), levellest(house, (1,) * many), (order_row(house, tuple(range(many))), 1)]
        for row, other in itertools.permutations(rows, 2):
            told = walk(house, row, other)
            self.assertIs(right_walk(house, row, other, told), True)
            if told:
                # The first exchange goes as far as there is room or lack.
                one, lower, amount = told[0]
                self.assertLessEqual(Fraction(*amount), Fraction(*room(house, row, one, lower)))
        for row in rows:
            self.assertIs(is_full(house, row), True)
            apart = taken_apart(house, row)
            self.assertLessEqual(len(apart), many)
            self.assertEqual(mixture_row(house, apart), row)

    def test_small_houses(self):
        for house in small_houses():
            self.papers(house)

    def test_seven_and_ten_things(self):
        self.papers(seven_houses()[0])
        self.papers(ten_houses()[2])

    def test_wishes_by_full_rows(self):
        dice = random.Random(1301)
        for house in small_houses()[::2]:
            many = house[0]
            wishes = tuple(dice.randint(-9, 9) for thing in range(many))
            for row in (levellest(house, (1,) * many), mixture_row(house, least(house)[1])):
                got = sum(wish * price for wish, price in zip(wishes, prices_of(row)))
                self.assertLessEqual(got, stretched(house, wishes))

    def test_between_a_house_and_what_it_becomes(self):
        # Turned, with each sign turned again, it tells what each set lacks of all things: a floor.
        for house in small_houses():
            many = house[0]
            floor = turned_signs(turned(house))
            self.assertIs(is_floor(floor), True)
            told = between(house, floor)
            self.assertEqual(told[0], "row")
            self.assertIs(right_between(house, floor, told), True)
            # Between these two are just the full rows.
            self.assertIs(is_full(house, (told[1], 1)), True)
            self.assertEqual(cost(told[1], whole_set(many)), house[1][-1])

    def test_folded_and_common(self):
        # A greatest row below a house and prices comes to what all things are worth where it is folded by them.
        dice = random.Random(1302)
        for house in small_houses():
            prices = tuple(dice.randint(-6, 6) for thing in range(house[0]))
            paper = common(house, summed(house[0], prices))
            self.assertEqual(sum(paper[0]), folded(house, prices)[1][-1])

    def test_steps_by_paid_prices(self):
        for house in small_houses()[::2]:
            many = house[0]
            for price in range(-6, 7, 3):
                paid = priced(house, (price,) * many)
                low, high = lean(house, (1,) * many, price, 1)
                self.assertEqual((low, high), (lowest(paid), highest(paid)))
                self.assertIn(low, left_with_least(house, (1,) * many, Fraction(price)))


class ManyHousesTest(unittest.TestCase):
    def test_whatever_is_made_is_a_house(self):
        dice = random.Random(1303)
        for turn in range(40):
            many = dice.randint(2, 4)
            house, other = drawn_house(dice, many), drawn_house(dice, many)
            thing, more = dice.sample(range(many), 2)
            prices = tuple(dice.randint(-9, 9) for at in range(many))
            made = [without(house, thing), granted(house, thing), together(house, thing, more), beside(house, other),
                    added(house, other), turned(house), folded(house, prices), priced(house, prices)]
            made.append(with_thing(house, tuple(worth + 2 for worth in house[1])))
            for told in made:
                self.assertIs(check_house(told), True)
                self.sets_together(dice, told)

    def sets_together(self, dice, house):
        # Of any two sets the worths are at least those of what either has and of what both have.
        worths = house[1]
        for turn in range(30):
            one, other = dice.randrange(len(worths)), dice.randrange(len(worths))
            self.assertGreaterEqual(worths[one] + worths[other], worths[one | other] + worths[one & other])

    def test_pieces_one_by_one_against_all(self):
        dice = random.Random(1304)
        for turn in range(15):
            many = dice.randint(2, 6)
            pieces = tuple(drawn_piece(dice, many) for piece in range(8))
            hall, desk = Hall(noughts(many)), Desk()
            desk.say(f"hall a {many}")
            for at, piece in enumerate(pieces):
                hall.add(house_of(many, (piece,)))
                self.assertEqual(desk.say("put a " + pieces_text((piece,))[:-1]), "ok")
                self.assertEqual(hall.house(), house_of(many, pieces[:at + 1]))
            for number in range(2 ** many):
                self.assertEqual(hall.house()[1][number], worth_by(many, pieces, number))
                things = "".join(str(thing) for thing in range(many) if number & 2 ** thing) or "-"
                self.assertEqual(desk.say(f"worth a {things}"), str(worth_by(many, pieces, number)))
            self.assertEqual(read_pieces(many, pieces_text(pieces)), pieces)
            self.assertEqual(read_house(house_text(hall.house())), hall.house())
            for at in range(len(pieces) - 1, -1, -1):
                self.assertEqual(hall.back(), at)
                self.assertEqual(hall.house(), house_of(many, pieces[:at]))

    def test_ledgers_and_papers(self):
        dice = random.Random(1305)
        for house in small_houses()[::3]:
            ledger = Ledger(Hall(house))
            for thing in range(house[0]):
                ledger.set_price(thing, dice.randint(-9, 9))
            paid = priced(house, ledger.prices())
            self.assertIs(right_least(paid, ledger.least()), True)
            mixture = ledger.least()[1]
            self.assertEqual(read_mixture(house[0], mixture_text(mixture)), mixture)
            for thing in range(house[0]):
                # With its turning added to its price, a thing is in some least sets and not in others.
                self.assertEqual(turning(paid, thing), ledger.turning(thing))
                before = ledger.set_price(thing, ledger.prices()[thing] + ledger.turning(thing))
                self.assertEqual(ledger.turning(thing), 0)
                ledger.set_price(thing, before)

    def test_papers_by_a_changed_house(self):
        # A paper is one of its house: told by one that was changed, it need not be one.
        house = (2, (0, 3, -1, -1))
        paper = family_of(house)
        self.assertIs(right_family(house, paper), True)
        self.assertIs(right_family(priced(house, (3, 0)), paper), False)
        with self.assertRaises(Crossing):
            check_house((2, (0, 3, -1, 3)))


def drawn_piece(dice, many):
    """A piece for so many things, drawn by the dice."""
    weight, parts = dice.randint(0, 9), dice.randint(1, 2 ** many - 1)
    gains = sorted((dice.randint(-9, 9) for part in range(bin(parts).count("1"))), reverse=True)
    return dice.choice((("sum", tuple(dice.randint(-9, 9) for thing in range(many))), ("meet", weight, parts),
                        ("whole", weight, parts), ("cut", weight, *dice.sample(range(many), 2)),
                        ("bent", parts, tuple(gains)), ("rank", weight, tuple(dice.randint(0, 7) for thing in range(many)))))


class FullRowsTest(unittest.TestCase):
    def test_orders_and_mixtures(self):
        dice = random.Random(1306)
        for house in small_houses()[::2]:
            many = house[0]
            order = tuple(dice.sample(range(many), many))
            self.assertEqual(order_row(house, order), gains_along(house, order))
            mixture = ((3, order), (2, order[::-1]))
            row = mixture_row(house, mixture)
            self.assertEqual(row, row_by_words(house, mixture))
            self.assertTrue(is_full_by_words(house, prices_of(row)))
            # Through walks and taking apart it stays the same row.
            self.assertEqual(mixture_row(house, taken_apart(house, row)), row)
            self.assertEqual(walk(house, row, mixture_row(house, taken_apart(house, row))), ())


if __name__ == "__main__":
    unittest.main()
