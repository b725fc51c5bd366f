"""Papers between a house and a floor: point 25, and what point 3 says of them."""

import copy
import itertools
import random
import unittest

from examples import (EDGE, FAR, changed, cost, counted, covered, drawn_house, drawn_mixture, drawn_orders, gains_along,
                      joined, nested, no_numbers, noughts, paid, prices_of, row_by_words, some_houses, summed, ten_houses,
                      turned_signs)
from fallgain.apart import taken_apart
from fallgain.below import raised
from fallgain.errors import NoFit
from fallgain.floorpaper import right_between
from fallgain.floors import is_floor
from fallgain.houses import check_house


def right_by_words(house, floor, paper):
    """Whether a paper ("row", row, over, under) whose parts are all of the right kinds is a right one."""
    word, row, over, under = paper
    above = all(price <= most for price, most in zip(row, prices_of(row_by_words(house, over))))
    return above and all(price >= least for price, least in zip(row, prices_of(row_by_words(floor, under))))


def fixed_prices(house, floor, choose):
    """Prices between a house and a floor, fixed thing by thing as the document says."""
    prices = []
    (many, over), (many, under) = house, floor
    for thing in range(many):
        bit = 2 ** thing
        rest = [number for number in range(2 ** many) if number % (2 * bit) == 0]
        low = max(under[number | bit] - over[number] for number in rest)
        high = min(over[number | bit] - under[number] for number in rest)
        price = choose(low, high)
        prices.append(price)
        over = {number: min(over[number], over[number | bit] - price) for number in rest}
        under = {number: max(under[number], under[number | bit] - price) for number in rest}
    return tuple(prices)


def paper_with(house, floor, prices):
    """The paper with a row that is known to lie between."""
    many = house[0]
    order = tuple(range(many))
    over = taken_apart(house, raised(house, (prices, 1), order))
    below = turned_signs(floor)
    under = taken_apart(below, raised(below, (tuple(-price for price in prices), 1), order))
    return ("row", prices, over, under)


def fitting_pairs():
    """Houses and floors of as many things that do not cross."""
    dice = random.Random(101)
    pairs = [(noughts(1), noughts(1)), (noughts(3), noughts(3)), ((1, (0, EDGE)), (1, (0, -EDGE))),
             ((2, (0, EDGE, EDGE, -EDGE)), (2, (0, -EDGE, -EDGE, -EDGE))), ((2, (0, 3, 4, 5)), (2, (0, 1, 1, 2))),
             ((1, (0, 7)), (1, (0, 7))), ((1, (0, EDGE)), (1, (0, EDGE)))]
    for house in some_houses()[3:]:
        prices = gains_along(house, drawn_orders(dice, house[0], 1)[0])
        for groups in ((), (1,), (3, 5), (2 ** house[0] - 1,)):
            # A cover is nowhere below 0, so that prices less a cover are a floor below the prices.
            few = covered(house[0], [group for group in groups if group < 2 ** house[0]])
            pairs.append((house, turned_signs(paid(few, prices))))
    return pairs


def crossing_pairs():
    """Houses and floors of as many things that cross somewhere."""
    dice = random.Random(102)
    pairs = [((1, (0, 3)), (1, (0, 4))), ((2, (0, 3, 4, 5)), (2, (0, 3, 2, 6))), ((1, (0, -EDGE)), (1, (0, EDGE)))]
    for turn in range(20):
        many = dice.randint(1, 4)
        prices = [dice.randint(4, 30) for thing in range(many)]
        pairs.append((drawn_house(dice, many), turned_signs(paid(drawn_house(dice, many), prices))))
    return [(house, floor) for house, floor in pairs if any(low > high for low, high in zip(floor[1], house[1]))]


def chosen_least(low, high):
    return low


def chosen_greatest(low, high):
    return high


def chosen_middle(low, high):
    return (low + high) // 2


def small_papers():
    told = []
    for house, floor in fitting_pairs():
        seen = set()
        for choose in (chosen_least, chosen_greatest, chosen_middle):
            prices = fixed_prices(house, floor, choose)
            if prices not in seen:
                seen.add(prices)
                told.append((house, floor, paper_with(house, floor, prices)))
    return told


SMALL = small_papers()
CROSSING = crossing_pairs()


class BetweenCase(unittest.TestCase):
    def is_one(self, house, floor, paper):
        self.assertIs(right_between(house, floor, paper), True, (house, floor, paper))

    def is_none(self, house, floor, thing):
        before = copy.deepcopy(thing)
        self.assertIs(right_between(house, floor, thing), False, (house, floor, thing))
        self.assertEqual(thing, before)

    def compare(self, house, floor, paper):
        right = right_by_words(house, floor, paper)
        self.assertIs(right_between(house, floor, paper), right, (house, floor, paper))
        return right


class CrossTest(BetweenCase):
    def test_the_examples_are_houses_and_floors(self):
        for house, floor in fitting_pairs() + CROSSING:
            self.assertIs(check_house(house), True)
            self.assertIs(is_floor(floor), True)

    def test_at_each_set(self):
        seen = {"above": 0, "equal": 0, "below": 0}
        for house, floor in CROSSING + fitting_pairs():
            for number in range(2 ** house[0]):
                low, high = floor[1][number], house[1][number]
                if low > high:
                    self.is_one(house, floor, ("cross", number))
                else:
                    self.is_none(house, floor, ("cross", number))
                seen["above" if low > high else "equal" if low == high else "below"] += 1
        self.assertGreater(min(seen.values()), 20)

    def test_any_set_not_only_the_first(self):
        house, floor = summed(2, (0, 0)), summed(2, (1, 1))
        for number in (1, 2, 3):
            self.is_one(house, floor, ("cross", number))
        self.is_none(house, floor, ("cross", 0))

    def test_what_is_no_set(self):
        for house, floor in CROSSING:
            beyond = 2 ** house[0]
            for value in [beyond, beyond + 1, -1, -beyond, FAR, -FAR, *no_numbers()]:
                self.is_none(house, floor, ("cross", value))
        self.is_one((1, (0, 3)), (1, (0, 4)), ("cross", 1))
        self.is_none((1, (0, 3)), (1, (0, 4)), ("cross", True))

    def test_the_word_and_the_parts(self):
        house, floor = (1, (0, 3)), (1, (0, 4))
        for value in (["cross", 1], ("Cross", 1), ("cross ", 1), ("cros", 1), ("row", 1), ("", 1), (None, 1), (True, 1),
                      (0, 1), (("cross",), 1), (["cross"], 1), ("cross",), ("cross", 1, 1), ("cross", 1, None), (1, "cross"),
                      {"cross": 1}, ("cross", (1,)), ("cross", [1]), (("cross", 1),), "cross", 1,
                      ("cross", 1, ((1, (0,)),), ((1, (0,)),))):
            self.is_none(house, floor, value)

    def test_where_they_cross_no_row_is_let_by(self):
        dice = random.Random(103)
        for house, floor in CROSSING:
            many = house[0]
            for turn in range(10):
                prices = tuple(dice.randint(-4, 4) for thing in range(many))
                paper = ("row", prices, drawn_mixture(dice, many, 2, 5), drawn_mixture(dice, many, 2, 5))
                self.is_none(house, floor, paper)


class RowTest(BetweenCase):
    def test_right_papers(self):
        for house, floor, paper in SMALL:
            self.assertTrue(right_by_words(house, floor, paper))
            self.is_one(house, floor, paper)
            self.is_one(house, floor, paper)

    def test_what_is_let_by_is_so(self):
        dice = random.Random(104)
        seen = {True: 0, False: 0}
        for house, floor, paper in SMALL:
            for turn in range(6):
                other = ("row", paper[1], drawn_mixture(dice, house[0], 2, 5), drawn_mixture(dice, house[0], 1, 5))
                if turn & 1:
                    other = changed(other, 2, paper[2])
                told = self.compare(house, floor, other)
                seen[told] += 1
            for number in range(2 ** house[0]):
                self.assertTrue(floor[1][number] <= cost(paper[1], number) <= house[1][number])
        self.assertGreater(min(seen.values()), 20)

    def test_a_price_one_more_or_less(self):
        seen = {True: 0, False: 0}
        for house, floor, paper in SMALL:
            for thing, price in enumerate(paper[1]):
                for more in (1, -1, 5, -5, FAR, -FAR):
                    seen[self.compare(house, floor, changed(paper, 1, changed(paper[1], thing, price + more)))] += 1
        self.assertGreater(min(seen.values()), 50)

    def test_just_at_the_prices_of_both_rows(self):
        house = (2, (0, 3, 4, 5))
        over = ((1, (0, 1)), (1, (1, 0)))
        floor = (2, (0, 1, 1, 4))
        under = ((1, (0, 1)), (2, (1, 0)))
        # By over the things cost 2 and 3, by under 7 over 3 and 5 over 3.
        self.is_none(house, floor, ("row", (2, 3), over, under))
        floor = (2, (0, 1, 1, 3))
        # Now by under they cost 5 over 3 and 4 over 3.
        self.is_one(house, floor, ("row", (2, 3), over, under))
        self.is_one(house, floor, ("row", (2, 2), over, under))
        self.is_none(house, floor, ("row", (2, 1), over, under))
        self.is_none(house, floor, ("row", (1, 2), over, under))
        self.is_none(house, floor, ("row", (3, 2), over, under))
        self.is_none(house, floor, ("row", (2, 4), over, under))
        self.is_one(house, floor, ("row", (2, 1), over, ((7, (1, 0)),)))
        self.is_one(house, floor, ("row", (3, 2), ((7, (0, 1)),), under))

    def test_another_count(self):
        for house, floor, paper in SMALL:
            for part in (2, 3):
                for at, (count, order) in enumerate(paper[part]):
                    for other in (count + 1, count * 2, 10 ** 18, FAR):
                        self.compare(house, floor, changed(paper, part, changed(paper[part], at, (other, order))))
                    for other in [0, -count, *no_numbers()]:
                        self.is_none(house, floor, changed(paper, part, changed(paper[part], at, (other, order))))

    def test_another_order(self):
        seen = {True: 0, False: 0}
        for house, floor, paper in SMALL:
            for part in (2, 3):
                for at, (count, order) in enumerate(paper[part]):
                    for other in list(itertools.permutations(range(house[0])))[:6]:
                        mixture = changed(paper[part], at, (count, other))
                        seen[self.compare(house, floor, changed(paper, part, mixture))] += 1
                    for other in (list(order), order[:-1], order + (house[0],), order[:-1] + (house[0],),
                                  order[:-1] + (-1,), order[:-1] + (None,), (), *no_numbers()):
                        mixture = changed(paper[part], at, (count, other))
                        self.is_none(house, floor, changed(paper, part, mixture))
        self.assertGreater(min(seen.values()), 50)

    def test_both_mixtures_exchanged(self):
        seen = {True: 0, False: 0}
        for house, floor, (word, prices, over, under) in SMALL:
            seen[self.compare(house, floor, (word, prices, under, over))] += 1
        self.assertGreater(min(seen.values()), 5)
        house, floor = (2, (0, 3, 4, 5)), (2, (0, 1, 1, 4))
        self.is_one(house, floor, ("row", (3, 1), ((1, (0, 1)),), ((1, (1, 0)),)))
        self.is_none(house, floor, ("row", (3, 1), ((1, (1, 0)),), ((1, (0, 1)),)))

    def test_mixtures_written_otherwise(self):
        for house, floor, (word, prices, over, under) in SMALL:
            self.is_one(house, floor, (word, prices, over[::-1], under[::-1]))
            self.is_one(house, floor, (word, prices, over * 3, under * 50))
            greater = tuple((count * (10 ** 40 + 1), order) for count, order in over)
            self.is_one(house, floor, (word, prices, greater, under))

    def test_what_is_no_mixture(self):
        for house, floor, paper in SMALL:
            for part in (2, 3):
                count, order = paper[part][0]
                for value in ((), list(paper[part]), paper[part][0], (paper[part],), ([count, order],), ((count, order, 0),),
                              ((order, count),), paper[part] + (None,), paper[1], paper, *no_numbers()):
                    self.is_none(house, floor, changed(paper, part, value))

    def test_what_is_no_row(self):
        for house, floor, paper in SMALL:
            prices = paper[1]
            for value in (list(prices), prices + (0,), prices[:-1], (), (prices,), (prices, 1), dict(enumerate(prices)),
                          paper[2], *no_numbers()):
                # What is no number may still be a row of one thing.
                if value != (1,):
                    self.is_none(house, floor, changed(paper, 1, value))
            for thing in range(house[0]):
                for value in [*no_numbers(), str(prices[thing])]:
                    self.is_none(house, floor, changed(paper, 1, changed(prices, thing, value)))

    def test_truths_that_are_alike(self):
        house, floor = (1, (0, 1)), (1, (0, 0))
        mixture = ((1, (0,)),)
        self.is_one(house, floor, ("row", (1,), mixture, mixture))
        self.is_one(house, floor, ("row", (0,), mixture, mixture))
        self.is_none(house, floor, ("row", (True,), mixture, mixture))
        self.is_none(house, floor, ("row", (False,), mixture, mixture))
        self.is_none(house, floor, ("row", (1,), ((True, (0,)),), mixture))
        self.is_none(house, floor, ("row", (1,), mixture, ((1, (False,)),)))

    def test_another_word(self):
        for house, floor, paper in SMALL:
            for word in ("cross", "Row", "rows", "row ", "ro", "", "row\n", 0, ("row",), ["row"], *no_numbers()):
                self.is_none(house, floor, changed(paper, 0, word))

    def test_parts_more_or_fewer(self):
        for house, floor, paper in SMALL:
            for value in (list(paper), paper[:3], paper[:2], paper[:1], paper[1:], paper + (None,), paper + (0,), (paper,),
                          paper[::-1], dict(enumerate(paper)), (paper[0], paper[2], paper[1], paper[3])):
                self.is_none(house, floor, value)

    def test_ten_things(self):
        dice = random.Random(105)
        for house in ten_houses():
            prices = gains_along(house, drawn_orders(dice, 10, 1)[0])
            floor = turned_signs(paid(joined(covered(10, (3, 96, 1023)), covered(10, (640,))), prices))
            for choose in (chosen_least, chosen_greatest, chosen_middle):
                told = paper_with(house, floor, fixed_prices(house, floor, choose))
                self.is_one(house, floor, told)
                self.is_none(house, floor, changed(told, 1, changed(told[1], 9, told[1][9] + 10 ** 6)))
                self.is_none(house, floor, changed(told, 1, changed(told[1], 9, told[1][9] - 10 ** 6)))


class AnythingTest(BetweenCase):
    def test_anything(self):
        for house, floor, paper in (SMALL[0], SMALL[-1]):
            for value in [0, 1, FAR, -FAR, *no_numbers(), nested(29), "x" * 100000, tuple(range(20000)), ((), ()), ([], {}),
                          ((),) * 4, ("row",) * 4, ("cross",) * 2, ("row", nested(28), nested(28), nested(28)),
                          ("cross", nested(28)), ("cross", "x" * 90000), ("row", tuple(range(19000)), (), ())]:
                self.is_none(house, floor, value)
                for at in range(4):
                    self.is_none(house, floor, changed(paper, at, value))


class NoFitTest(unittest.TestCase):
    def test_unlike_many_whatever_the_last_argument_is(self):
        right = ("row", (0,), ((1, (0,)),), ((1, (0,)),))
        values = [right, ("cross", 1), ("cross", 0), (), None, 0, "row", True, *no_numbers(), FAR, nested(29)]
        for one, other in itertools.permutations(range(1, 11), 2):
            house, floor = counted(one, (2,) + (1,) * (one - 1)), noughts(other)
            for value in values:
                with self.assertRaises(NoFit):
                    right_between(house, floor, value)

    def test_as_many(self):
        for many in range(1, 11):
            self.assertIs(right_between(noughts(many), noughts(many), None), False)


if __name__ == "__main__":
    unittest.main()
