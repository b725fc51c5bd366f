"""Papers for a greatest row below two houses: point 26, and what point 3 says of them."""

import copy
import itertools
import random
import unittest

from examples import (EDGE, FAR, changed, cost, counted, covered, drawn_house, drawn_mixture, drawn_orders, joined, nested,
                      no_numbers, noughts, prices_of, raised_by_words, row_by_words, row_with, summed, ten_houses,
                      whole_set)
from fallgain.apart import taken_apart
from fallgain.errors import NoFit
from fallgain.twopaper import right_common


def right_by_words(one, other, paper):
    """Whether a paper whose parts are all of the right kinds is a right one."""
    row, number, left, right = paper
    below = all(price <= most for price, most in zip(row, prices_of(row_by_words(one, left))))
    below = below and all(price <= most for price, most in zip(row, prices_of(row_by_words(other, right))))
    return below and sum(row) == one[1][number] + other[1][whole_set(one[0]) - number]


def shared(one, other):
    """For each set the one's worth of it and the other's of the rest, together."""
    return [worth + other[1][whole_set(one[0]) - number] for number, worth in enumerate(one[1])]


def is_below_both(one, other, prices):
    return all(cost(prices, number) <= min(worth, other[1][number]) for number, worth in enumerate(one[1]))


def greatest_prices(one, other):
    """Whole prices below both that come to as much as can be, by trial of single steps and exchanges."""
    many = one[0]
    prices = [min(house[1][-1] - house[1][-1 - 2 ** thing] for house in (one, other)) for thing in range(many)]
    prices = [price - max(0, 9 * many) for price in prices]
    fewest = min(shared(one, other))
    # Each turn one price grows by 1, behind a shortest row of exchanges by 1 that makes way for it.
    while sum(prices) < fewest:
        prices = grown_by_one(one, other, prices)
    return tuple(prices)


def grown_by_one(one, other, prices):
    """Prices below both that come to one more, found by going through exchanges in breadth."""
    known, ahead = {tuple(prices)}, [tuple(prices)]
    while ahead:
        further = []
        for now in ahead:
            for thing in range(len(now)):
                more = changed(now, thing, now[thing] + 1)
                if is_below_both(one, other, more):
                    return more
                for lower in range(len(now)):
                    moved = changed(more, lower, more[lower] - 1)
                    if moved not in known and is_below_both(one, other, moved):
                        known.add(moved)
                        further.append(moved)
        ahead = further
    raise AssertionError("no row comes to one more")


def paper_with(one, other, prices):
    """The paper with prices that are known to be below both and as great as can be."""
    order = tuple(range(one[0]))
    left = taken_apart(one, row_with(raised_by_words(one, prices, order)))
    right = taken_apart(other, row_with(raised_by_words(other, prices, order)))
    told = shared(one, other)
    return (tuple(prices), told.index(min(told)), left, right)


def pairs():
    """Pairs of houses of as many things."""
    dice = random.Random(301)
    told = [(noughts(1), noughts(1)), (noughts(3), noughts(3)), ((1, (0, 4)), (1, (0, 7))), ((1, (0, -4)), (1, (0, -7))),
            ((2, (0, 3, 4, 5)), (2, (0, 4, 2, 4))), ((2, (0, 3, 4, 5)), (2, (0, 3, 4, 5)))]
    for many in (2, 3, 3, 3, 4):
        told.append((drawn_house(dice, many), drawn_house(dice, many)))
        told.append((drawn_house(dice, many), noughts(many)))
    return told


PAPERS = [(one, other, paper_with(one, other, greatest_prices(one, other))) for one, other in pairs()]
FAR_PAPERS = [((1, (0, EDGE)), (1, (0, EDGE)), ((EDGE,), 0, ((1, (0,)),), ((3, (0,)),))),
              ((1, (0, EDGE)), (1, (0, -EDGE)), ((-EDGE,), 0, ((1, (0,)),), ((3, (0,)),))),
              ((2, (0, EDGE, EDGE, -EDGE)), (2, (0, EDGE, EDGE, -EDGE)),
               ((EDGE, -2 * EDGE), 0, ((1, (0, 1)),), ((1, (0, 1)),)))]


class CommonCase(unittest.TestCase):
    def is_one(self, one, other, paper):
        self.assertIs(right_common(one, other, paper), True, (one, other, paper))

    def is_none(self, one, other, thing):
        before = copy.deepcopy(thing)
        self.assertIs(right_common(one, other, thing), False, (one, other, thing))
        self.assertEqual(thing, before)

    def compare(self, one, other, paper):
        right = right_by_words(one, other, paper)
        self.assertIs(right_common(one, other, paper), right, (one, other, paper))
        return right


class RightTest(CommonCase):
    def test_right_papers(self):
        for one, other, paper in PAPERS + FAR_PAPERS:
            self.assertTrue(right_by_words(one, other, paper))
            self.is_one(one, other, paper)
            self.is_one(one, other, paper)

    def test_what_is_let_by_is_so(self):
        dice = random.Random(302)
        seen = {True: 0, False: 0}
        for one, other, paper in PAPERS:
            many = one[0]
            for turn in range(30):
                tried = (paper[0], paper[1] if turn & 1 else dice.randrange(2 ** many),
                         paper[2] if turn & 2 else drawn_mixture(dice, many, 2, 5),
                         paper[3] if turn & 4 else drawn_mixture(dice, many, 2, 5))
                right = self.compare(one, other, tried)
                seen[right] += 1
                if right:
                    self.assertTrue(is_below_both(one, other, tried[0]))
                    self.assertEqual(sum(tried[0]), min(shared(one, other)))
        self.assertGreater(min(seen.values()), 50)

    def test_another_row_of_as_much(self):
        one, other = noughts(2), noughts(2)
        mixture = ((1, (0, 1)),)
        self.is_one(one, other, ((0, 0), 3, mixture, mixture))
        # All together it comes to as much, but the one thing costs more than by the mixtures.
        self.is_none(one, other, ((1, -1), 3, mixture, mixture))
        house = (2, (0, 3, 4, 5))
        both = ((1, (0, 1)), (1, (1, 0)))
        self.is_one(house, house, ((2, 3), 3, both, both))
        self.is_none(house, house, ((2, 3), 1, both, both))
        self.is_one(house, house, ((3, 2), 0, ((1, (0, 1)),), ((2, (0, 1)),)))
        self.is_none(house, house, ((3, 2), 0, both, ((2, (0, 1)),)))
        self.is_none(house, house, ((3, 2), 0, ((2, (0, 1)),), both))
        self.is_none(house, house, ((1, 3), 0, both, both))


class OtherwiseTest(CommonCase):
    def test_a_price_one_more_or_less(self):
        for one, other, paper in PAPERS + FAR_PAPERS:
            for thing, price in enumerate(paper[0]):
                for more in (1, -1, 5, -5, FAR, -FAR):
                    # By any other sum it comes to something else.
                    self.is_none(one, other, changed(paper, 0, changed(paper[0], thing, price + more)))

    def test_two_prices_otherwise(self):
        seen = {True: 0, False: 0}
        for one, other, paper in PAPERS:
            for up, down in itertools.permutations(range(one[0]), 2):
                row = changed(paper[0], up, paper[0][up] + 1)
                row = changed(row, down, row[down] - 1)
                seen[self.compare(one, other, changed(paper, 0, row))] += 1
        self.assertGreater(seen[False], 20)

    def test_another_set(self):
        seen = {True: 0, False: 0}
        for one, other, paper in PAPERS:
            for number in range(2 ** one[0]):
                seen[self.compare(one, other, changed(paper, 1, number))] += 1
            beyond = 2 ** one[0]
            for value in [beyond, beyond + paper[1], -1, -beyond, FAR, -FAR, *no_numbers()]:
                self.is_none(one, other, changed(paper, 1, value))
        self.assertGreater(min(seen.values()), 15)

    def test_the_rest_for_the_set(self):
        one, other = (1, (0, 4)), (1, (0, 7))
        paper = ((4,), 1, ((1, (0,)),), ((1, (0,)),))
        self.is_one(one, other, paper)
        self.is_none(one, other, changed(paper, 1, 0))
        self.is_one(other, one, changed(paper, 1, 0))
        self.is_none(other, one, paper)

    def test_another_count(self):
        for one, other, paper in PAPERS:
            for part in (2, 3):
                for at, (count, order) in enumerate(paper[part]):
                    for more in (count + 1, count * 2, 10 ** 18, FAR):
                        self.compare(one, other, changed(paper, part, changed(paper[part], at, (more, order))))
                    for value in [0, -count, *no_numbers()]:
                        self.is_none(one, other, changed(paper, part, changed(paper[part], at, (value, order))))

    def test_another_order(self):
        seen = {True: 0, False: 0}
        for one, other, paper in PAPERS:
            for part in (2, 3):
                for at, (count, order) in enumerate(paper[part]):
                    for tried in list(itertools.permutations(range(one[0])))[:6]:
                        mixture = changed(paper[part], at, (count, tried))
                        seen[self.compare(one, other, changed(paper, part, mixture))] += 1
                    for tried in (list(order), order[:-1], order + (one[0],), order[:-1] + (one[0],), order[:-1] + (-1,),
                                  order[:-1] + (None,), (), *no_numbers()):
                        self.is_none(one, other, changed(paper, part, changed(paper[part], at, (count, tried))))
        self.assertGreater(min(seen.values()), 20)

    def test_both_mixtures_exchanged(self):
        seen = {True: 0, False: 0}
        for one, other, (row, number, left, right) in PAPERS:
            seen[self.compare(one, other, (row, number, right, left))] += 1
            # Both houses exchanged, too, with the rest for the set, it is right again.
            self.is_one(other, one, (row, whole_set(one[0]) - number, right, left))
        one, other = (2, (0, 3, 4, 5)), (2, (0, 1, 9, 5))
        paper = ((1, 4), 3, ((1, (1, 0)),), ((1, (0, 1)),))
        self.is_one(one, other, paper)
        self.is_none(one, other, (paper[0], paper[1], paper[3], paper[2]))

    def test_mixtures_written_otherwise(self):
        for one, other, (row, number, left, right) in PAPERS:
            self.is_one(one, other, (row, number, left[::-1], right[::-1]))
            self.is_one(one, other, (row, number, left * 3, right * 50))
            greater = tuple((count * (10 ** 40 + 1), order) for count, order in left)
            self.is_one(one, other, (row, number, greater, right))

    def test_what_is_no_mixture(self):
        for one, other, paper in PAPERS:
            for part in (2, 3):
                count, order = paper[part][0]
                for value in ((), list(paper[part]), paper[part][0], (paper[part],), ([count, order],), ((count, order, 0),),
                              ((order, count),), paper[part] + (None,), paper[0], paper, *no_numbers()):
                    self.is_none(one, other, changed(paper, part, value))

    def test_what_is_no_row(self):
        for one, other, paper in PAPERS:
            prices = paper[0]
            for value in (list(prices), prices + (0,), prices[:-1], (), (prices,), (prices, 1), dict(enumerate(prices)),
                          paper[2], *no_numbers()):
                # What is no number may still be a row of one thing.
                if value != (1,):
                    self.is_none(one, other, changed(paper, 0, value))
            for thing in range(one[0]):
                for value in [*no_numbers(), str(prices[thing])]:
                    self.is_none(one, other, changed(paper, 0, changed(prices, thing, value)))

    def test_truths_that_are_alike(self):
        one, other, mixture = (1, (0, 1)), (1, (0, 2)), ((1, (0,)),)
        self.is_one(one, other, ((1,), 1, mixture, mixture))
        self.is_none(one, other, ((True,), 1, mixture, mixture))
        self.is_none(one, other, ((1,), True, mixture, mixture))
        self.is_none(one, other, ((1,), 1, ((True, (0,)),), mixture))
        self.is_none(one, other, ((1,), 1, mixture, ((1, (False,)),)))
        self.is_one(other, one, ((1,), 0, mixture, mixture))
        self.is_none(other, one, ((1,), False, mixture, mixture))
        self.is_none(noughts(1), noughts(1), ((False,), 0, mixture, mixture))

    def test_parts_more_or_fewer(self):
        for one, other, paper in PAPERS:
            for value in (list(paper), paper[:3], paper[:2], paper[:1], paper[1:], paper + (None,), paper + (0,), (paper,),
                          paper[::-1], dict(enumerate(paper)), ("row",) + paper, (paper[1], paper[0], *paper[2:])):
                self.is_none(one, other, value)

    def test_ten_things(self):
        dice = random.Random(303)
        for house in ten_houses():
            order = drawn_orders(dice, 10, 1)[0]
            mixture = ((1, order),)
            row = row_by_words(house, mixture)[0]
            paper = (row, 0, mixture, ((7, order),))
            self.is_one(house, house, paper)
            self.is_one(house, house, changed(paper, 1, 1023))
            self.is_none(house, house, changed(paper, 0, changed(row, 9, row[9] + 1)))
            # A house that is nowhere less lets the same row by, with all things for the set.
            greater = joined(house, covered(10, (3, 640)))
            raised = taken_apart(greater, row_with(raised_by_words(greater, row, order)))
            self.is_one(house, greater, (row, 1023, mixture, raised))
            self.is_one(greater, house, (row, 0, raised, mixture))
            self.is_none(greater, house, (row, 1023, raised, mixture))


class AnythingTest(CommonCase):
    def test_anything(self):
        for one, other, paper in (PAPERS[0], PAPERS[-1]):
            for value in [0, 1, FAR, -FAR, *no_numbers(), nested(29), "x" * 100000, tuple(range(20000)), ((), ()), ([], {}),
                          ((),) * 4, ("row",) * 4, (nested(28),) * 4, (tuple(range(19000)), 0, (), ()), (None,) * 4]:
                self.is_none(one, other, value)
                for at in range(4):
                    # The first pair's set may be any.
                    if not right_kind(one[0], at, value):
                        self.is_none(one, other, changed(paper, at, value))

    def test_of_one_number_too_many(self):
        self.is_none(noughts(1), noughts(1), ((0, 0), 0, ((1, (0,)),), ((1, (0,)),)))
        self.is_none(summed(2, (1, 1)), noughts(2), ((0,), 0, ((1, (0, 1)),), ((1, (0, 1)),)))


def right_kind(many, at, value):
    """Whether this is a set that stands where a set is due."""
    return at == 1 and type(value) is int and 0 <= value < 2 ** many


class NoFitTest(unittest.TestCase):
    def test_unlike_many_whatever_the_last_argument_is(self):
        right = ((0,), 0, ((1, (0,)),), ((1, (0,)),))
        values = [right, (), None, 0, "row", True, *no_numbers(), FAR, nested(29)]
        for one, other in itertools.permutations(range(1, 11), 2):
            house = counted(one, (2,) + (1,) * (one - 1))
            for value in values:
                with self.assertRaises(NoFit):
                    right_common(house, noughts(other), value)

    def test_as_many(self):
        for many in range(1, 11):
            self.assertIs(right_common(noughts(many), noughts(many), None), False)


if __name__ == "__main__":
    unittest.main()
