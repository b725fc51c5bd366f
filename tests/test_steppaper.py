"""Papers for steps: points 22 and 23, and what point 3 says of them."""

import copy
import itertools
import math
import random
import unittest
from fractions import Fraction

from examples import (EDGE, FAR, changed, counted, cost, covered, drawn_house, drawn_mixture, edge_houses, joined,
                      left_with_least, nested, no_numbers, noughts, row_by_words, row_with, some_houses, summed,
                      weights_for, within)
from fallgain.steppaper import right_steps
from fallgain.steps import steps_of


def are_steps_by_words(many, steps):
    """Whether these tuples of three ints, the last a set, are steps."""
    last, ahead = None, 0
    for top, bottom, number in steps:
        if bottom < 1 or math.gcd(top, bottom) != 1:
            return False
        if last is not None and Fraction(top, bottom) <= last:
            return False
        if not within(ahead, number) or number == ahead:
            return False
        last, ahead = Fraction(top, bottom), number
    return ahead == 2 ** many - 1


def row_of_steps(weights, steps):
    """The row of steps, by the words of the document."""
    prices = []
    for thing, weight in enumerate(weights):
        first = [step for step in steps if step[2] & 2 ** thing][0]
        prices.append(weight * Fraction(first[0], first[1]))
    return row_with(prices)


def right_by_words(house, weights, paper):
    """Whether a paper whose parts are all of the right kinds is a right one."""
    steps, mixture = paper
    if not are_steps_by_words(house[0], steps):
        return False
    ahead = 0
    for top, bottom, number in steps:
        more = house[1][number] - house[1][ahead]
        if more != Fraction(top, bottom) * cost(weights, number - ahead):
            return False
        ahead = number
    return row_by_words(house, mixture) == row_of_steps(weights, steps)


def small_papers():
    """Houses of one to five things with weights, and right papers for them."""
    dice = random.Random(71)
    houses = some_houses() + edge_houses() + [noughts(3), drawn_house(dice, 4), drawn_house(dice, 5)]
    told = []
    for house in houses:
        for weights in weights_for(house[0])[:4]:
            told.append((house, weights, steps_of(house, weights)))
    return told


SMALL = small_papers()


class StepPaperCase(unittest.TestCase):
    def is_one(self, house, weights, paper):
        self.assertIs(right_steps(house, weights, paper), True, (house, weights, paper))

    def is_none(self, house, weights, thing):
        before = copy.deepcopy(thing)
        self.assertIs(right_steps(house, weights, thing), False, (house, weights, thing))
        self.assertEqual(thing, before)

    def compare(self, house, weights, paper):
        right = right_by_words(house, weights, paper)
        self.assertIs(right_steps(house, weights, paper), right, (house, weights, paper))
        return right


class RightPapersTest(StepPaperCase):
    def test_right_papers(self):
        for house, weights, paper in SMALL:
            self.assertTrue(right_by_words(house, weights, paper))
            self.is_one(house, weights, paper)
            self.is_one(house, weights, paper)

    def test_all_that_is_meant_is_met(self):
        lengths = {len(paper[0]) for house, weights, paper in SMALL}
        self.assertTrue({1, 2, 3, 4} <= lengths)
        fractions = [step[:2] for house, weights, paper in SMALL for step in paper[0]]
        self.assertTrue(any(top < 0 and bottom > 1 for top, bottom in fractions))
        self.assertTrue(any(top > 0 and bottom > 1 for top, bottom in fractions))
        self.assertIn((0, 1), fractions)

    def test_named_papers(self):
        house = (2, (0, 3, 4, 5))
        mixture = ((1, (0, 1)), (1, (1, 0)))
        self.is_one(house, (2, 3), (((1, 1, 3),), mixture))
        self.is_one(house, (1, 1), (((5, 2, 3),), ((3, (0, 1)), (1, (1, 0)))))
        self.is_none(house, (1, 1), (((5, 2, 3),), mixture))
        house = (2, (0, 1, 4, 5))
        self.is_one(house, (1, 1), (((1, 1, 1), (4, 1, 3)), ((7, (1, 0)),)))
        self.is_one(house, (1, 2), (((1, 1, 1), (2, 1, 3)), ((7, (1, 0)),)))
        self.is_one(house, (1, 3), (((1, 1, 1), (4, 3, 3)), ((7, (0, 1)),)))
        self.is_one(house, (1, 4), (((1, 1, 3),), ((7, (0, 1)),)))
        self.is_none(house, (1, 4), (((1, 1, 1), (1, 1, 3)), ((7, (0, 1)),)))
        self.is_one(house, (1, 8), (((1, 2, 2), (1, 1, 3)), ((7, (0, 1)),)))

    def test_what_is_let_by_is_so(self):
        for house, weights, paper in SMALL:
            ahead = 0
            for top, bottom, number in paper[0]:
                some = left_with_least(house, weights, Fraction(top, bottom))
                self.assertTrue(ahead in some and number in some)
                self.assertTrue(all(within(ahead, other) and within(other, number) for other in some))
                ahead = number

    def test_mixtures_written_otherwise(self):
        dice = random.Random(72)
        for house, weights, (steps, mixture) in SMALL:
            for other in (mixture[::-1], mixture * 2, mixture + mixture[::-1], mixture * 50,
                          tuple((count * (10 ** 40 + 1), order) for count, order in mixture),
                          tuple((2 * count, order) for count, order in mixture) + mixture,
                          tuple(dice.sample(mixture, len(mixture)))):
                self.is_one(house, weights, (steps, other))


class FractionsBentTest(StepPaperCase):
    def bent(self, paper, at, step):
        return (changed(paper[0], at, step), paper[1])

    def test_another_fraction(self):
        for house, weights, paper in SMALL:
            for at, (top, bottom, number) in enumerate(paper[0]):
                for other in ((top + 1, bottom), (top - 1, bottom), (top, bottom + 1), (top, bottom - 1), (-top, bottom),
                              (bottom, top), (top + bottom, bottom), (top - bottom, bottom), (FAR, bottom), (-FAR, bottom),
                              (top, FAR), (FAR, FAR + 1)):
                    told = self.compare(house, weights, self.bent(paper, at, (*other, number)))
                    self.assertIs(told, other == (top, bottom))

    def test_not_in_lowest_terms(self):
        for house, weights, paper in SMALL:
            for at, (top, bottom, number) in enumerate(paper[0]):
                for factor in (2, 3, 1000, FAR, -1, -2, 0):
                    other = (top * factor, bottom * factor, number)
                    self.is_none(house, weights, self.bent(paper, at, other))

    def test_bottoms_below_nought_in_all_steps(self):
        for house, weights, (steps, mixture) in SMALL:
            for some in (steps[:1], steps[:2], steps):
                other = tuple((-top, -bottom, number) for top, bottom, number in some) + steps[len(some):]
                self.is_none(house, weights, (other, mixture))

    def test_nought_over_others(self):
        house, weights = noughts(2), (3, 1)
        mixture = ((1, (0, 1)),)
        self.is_one(house, weights, (((0, 1, 3),), mixture))
        for bottom in (0, 2, 5, -1, True, None):
            self.is_none(house, weights, (((0, bottom, 3),), mixture))
        self.is_none(house, weights, (((0, 1, 1), (0, 1, 3)), mixture))
        self.is_none(house, weights, (((False, 1, 3),), mixture))

    def test_not_rising(self):
        house, weights = summed(3, (1, 2, 3)), (1, 1, 1)
        mixture = ((1, (0, 1, 2)),)
        self.is_one(house, weights, (((1, 1, 1), (2, 1, 3), (3, 1, 7)), mixture))
        for order in itertools.permutations(range(3)):
            steps, ahead = [], 0
            for thing in order:
                ahead += 2 ** thing
                steps.append((thing + 1, 1, ahead))
            told = self.compare(house, weights, (tuple(steps), mixture))
            self.assertIs(told, order == (0, 1, 2))

    def test_one_step_parted_in_two_of_like_fractions(self):
        parted = 0
        for house, weights, (steps, mixture) in SMALL:
            ahead = 0
            for at, (top, bottom, number) in enumerate(steps):
                for other in range(2 ** house[0]):
                    if other not in (ahead, number) and within(ahead, other) and within(other, number):
                        more = steps[:at] + ((top, bottom, other), (top, bottom, number)) + steps[at + 1:]
                        self.is_none(house, weights, (more, mixture))
                        parted += 1
                ahead = number
        self.assertGreater(parted, 100)

    def test_two_steps_made_one(self):
        for house, weights, (steps, mixture) in SMALL:
            for at in range(len(steps) - 1):
                ahead = steps[at - 1][2] if at else 0
                number = steps[at + 1][2]
                price = Fraction(house[1][number] - house[1][ahead], cost(weights, number - ahead))
                step = (price.numerator, price.denominator, number)
                self.is_none(house, weights, (steps[:at] + (step,) + steps[at + 2:], mixture))

    def test_steps_that_are_just_but_whose_row_is_not_the_mixture_s(self):
        house, weights = (2, (0, 3, 4, 5)), (1, 1)
        for mixture in (((1, (0, 1)),), ((1, (1, 0)),), ((2, (0, 1)), (1, (1, 0)))):
            self.is_none(house, weights, (((5, 2, 3),), mixture))

    def test_a_row_that_is_the_mixture_s_but_steps_that_are_not_just(self):
        house, weights = (2, (0, 3, 4, 5)), (1, 1)
        # The order's row is (1, 4), but the first thing alone is worth 3.
        self.is_none(house, weights, (((1, 1, 1), (4, 1, 3)), ((1, (1, 0)),)))
        self.is_none(house, weights, (((2, 1, 2), (3, 1, 3)), ((1, (0, 1)),)))

    def test_each_chain_of_sets_with_drawn_fractions(self):
        house = joined(counted(3, (3, 0, -2)), summed(3, (0, 1, 0)))
        right = 0
        for weights in ((1, 1, 1), (2, 1, 1)):
            mixture = steps_of(house, weights)[1]
            for size in range(1, 4):
                for chain in itertools.product(range(8), repeat=size):
                    steps, ahead = [], 0
                    for number in chain:
                        bottom = max(1, cost(weights, number & ~ahead))
                        price = Fraction(house[1][number] - house[1][ahead], bottom)
                        steps.append((price.numerator, price.denominator, number))
                        ahead = number
                    right += self.compare(house, weights, (tuple(steps), mixture))
        self.assertEqual(right, 2)


class SetsBentTest(StepPaperCase):
    def test_another_set(self):
        for house, weights, (steps, mixture) in SMALL:
            for at, step in enumerate(steps):
                for number in range(2 ** house[0]):
                    told = self.compare(house, weights, (changed(steps, at, (*step[:2], number)), mixture))
                    self.assertIs(told, number == step[2])

    def test_what_is_no_set(self):
        for house, weights, (steps, mixture) in SMALL:
            beyond = 2 ** house[0]
            for at, step in enumerate(steps):
                for value in [beyond, beyond + step[2], -1, -beyond, FAR, -FAR, *no_numbers()]:
                    self.is_none(house, weights, (changed(steps, at, (*step[:2], value)), mixture))

    def test_a_last_set_that_is_not_all_things(self):
        for house, weights, (steps, mixture) in SMALL:
            self.is_none(house, weights, (steps[:-1], mixture))
        house, weights = summed(3, (1, 2, 0)), (1, 1, 1)
        mixture = ((1, (0, 1, 2)),)
        self.is_one(house, weights, (((0, 1, 4), (1, 1, 5), (2, 1, 7)), mixture))
        self.is_none(house, weights, (((1, 1, 1), (2, 1, 3)), mixture))
        self.is_none(house, weights, (((0, 1, 4), (1, 1, 5)), mixture))

    def test_a_first_set_of_no_things(self):
        for house, weights, (steps, mixture) in SMALL:
            top, bottom, number = steps[0]
            for price in ((top - 1, 1), (-FAR, 1), (0, 1), (top - bottom, bottom)):
                self.is_none(house, weights, (((*price, 0),) + steps, mixture))

    def test_a_set_that_does_not_grow(self):
        for house, weights, (steps, mixture) in SMALL:
            top, bottom, number = steps[-1]
            for price in ((top + bottom, bottom), (FAR * bottom + 1, bottom)):
                self.is_none(house, weights, (steps + ((*price, number),), mixture))


class StepsBentTest(StepPaperCase):
    def test_left_out_and_twice(self):
        for house, weights, (steps, mixture) in SMALL:
            for at, step in enumerate(steps):
                self.is_none(house, weights, (steps[:at] + steps[at + 1:], mixture))
                self.is_none(house, weights, (steps[:at] + (step,) + steps[at:], mixture))

    def test_turned_round(self):
        for house, weights, (steps, mixture) in SMALL:
            for other in itertools.permutations(steps):
                if other != steps:
                    self.is_none(house, weights, (other, mixture))

    def test_parts_of_steps_otherwise(self):
        for house, weights, (steps, mixture) in SMALL:
            for at, (top, bottom, number) in enumerate(steps):
                for value in ((top, bottom), (bottom, number), (top, bottom, number, 0), (top, bottom, number, None),
                              ((top, bottom), number), (number, top, bottom, ()), [top, bottom, number],
                              {top: (bottom, number)}, (), (number,), ((top, bottom, number),), *no_numbers()):
                    self.is_none(house, weights, (changed(steps, at, value), mixture))
                for value in [*no_numbers(), str(top), str(bottom)]:
                    self.is_none(house, weights, (changed(steps, at, (value, bottom, number)), mixture))
                    self.is_none(house, weights, (changed(steps, at, (top, value, number)), mixture))

    def test_truths_that_are_alike(self):
        house, weights, mixture = (1, (0, 1)), (1,), ((1, (0,)),)
        self.is_one(house, weights, (((1, 1, 1),), mixture))
        self.is_none(house, weights, (((True, 1, 1),), mixture))
        self.is_none(house, weights, (((1, True, 1),), mixture))
        self.is_none(house, weights, (((1, 1, True),), mixture))
        self.is_none(house, weights, (((1, 1, 1),), ((True, (0,)),)))
        self.is_none(house, weights, (((1, 1, 1),), ((1, (False,)),)))

    def test_what_are_no_steps(self):
        for house, weights, (steps, mixture) in SMALL:
            for value in ((), list(steps), steps[0], (steps,), dict(enumerate(steps)), mixture, None, 0, *no_numbers()):
                self.is_none(house, weights, (value, mixture))


class MixtureBentTest(StepPaperCase):
    def test_another_count(self):
        seen = 0
        for house, weights, (steps, mixture) in SMALL:
            for at, (count, order) in enumerate(mixture):
                for other in (count + 1, count * 2, max(1, count - 1), 10 ** 18, FAR):
                    told = self.compare(house, weights, (steps, changed(mixture, at, (other, order))))
                    seen += not told
                for other in [0, -count, *no_numbers()]:
                    self.is_none(house, weights, (steps, changed(mixture, at, (other, order))))
        self.assertGreater(seen, 100)

    def test_another_order(self):
        seen = 0
        for house, weights, (steps, mixture) in SMALL:
            for at, (count, order) in enumerate(mixture):
                for other in list(itertools.permutations(range(house[0])))[:24]:
                    told = self.compare(house, weights, (steps, changed(mixture, at, (count, other))))
                    seen += not told
                for other in (list(order), order[:-1], order + (house[0],), order[:-1] + (house[0],), order[:-1] + (-1,),
                              order[:-1] + (None,), (), *no_numbers()):
                    self.is_none(house, weights, (steps, changed(mixture, at, (count, other))))
        self.assertGreater(seen, 100)

    def test_a_pair_left_out_or_more(self):
        dice = random.Random(73)
        for house, weights, (steps, mixture) in SMALL:
            for at in range(len(mixture)):
                less = mixture[:at] + mixture[at + 1:]
                if less:
                    self.compare(house, weights, (steps, less))
                else:
                    self.is_none(house, weights, (steps, less))
                self.compare(house, weights, (steps, mixture + mixture[at:at + 1]))
            self.compare(house, weights, (steps, mixture + drawn_mixture(dice, house[0], 1, 5)))
            self.compare(house, weights, (steps, drawn_mixture(dice, house[0], 3, 5)))

    def test_what_is_no_mixture(self):
        for house, weights, (steps, mixture) in SMALL:
            count, order = mixture[0]
            for value in (list(mixture), mixture[0], (mixture,), ([count, order],), ((count, order, 0),), ((count,),),
                          ((order, count),), mixture + (None,), mixture + ((),), dict(mixture), steps, *no_numbers()):
                self.is_none(house, weights, (steps, value))


class WeightsTest(StepPaperCase):
    def test_by_other_weights(self):
        seen = {True: 0, False: 0}
        for house, weights, paper in SMALL:
            for other in weights_for(house[0]) + [tuple(min(1000, 2 * weight) for weight in weights), weights[::-1]]:
                seen[self.compare(house, other, paper)] += 1
            for thing in range(house[0]):
                other = changed(weights, thing, weights[thing] + 1 if weights[thing] < 1000 else 999)
                seen[self.compare(house, other, paper)] += 1
        self.assertGreater(min(seen.values()), 100)

    def test_weights_so_many_times_as_great(self):
        house = (2, (0, 3, 4, 5))
        steps, mixture = steps_of(house, (1, 1))
        self.assertEqual(steps, ((5, 2, 3),))
        self.is_one(house, (2, 2), (((5, 4, 3),), mixture))
        self.is_one(house, (5, 5), (((1, 2, 3),), mixture))
        self.is_one(house, (10, 10), (((1, 4, 3),), mixture))
        self.is_none(house, (10, 10), (((5, 20, 3),), mixture))
        self.is_none(house, (2, 2), (steps, mixture))


class AnythingTest(StepPaperCase):
    def test_parts_more_or_fewer(self):
        for house, weights, paper in SMALL:
            steps, mixture = paper
            for value in (list(paper), paper + (0,), paper + (None,), paper[:1], paper[1:], (mixture, steps), (paper,),
                          {0: steps, 1: mixture}, (steps, steps), (mixture, mixture), (None, None), steps, mixture,
                          (*paper, mixture), steps + (mixture,)):
                self.is_none(house, weights, value)

    def test_anything(self):
        for house in (some_houses()[0], some_houses()[-1], covered(10, (3, 6, 1023, 640))):
            weights = (1,) * house[0]
            mixture = steps_of(house, weights)[1]
            for value in [0, 1, FAR, -FAR, *no_numbers(), nested(29), "x" * 100000, tuple(range(20000)), ((), ()), ([], {})]:
                self.is_none(house, weights, value)
                self.is_none(house, weights, (value, mixture))
                self.is_none(house, weights, (((1, 1, 1),), value))
                self.is_none(house, weights, (((1, value, 1),), mixture))
                self.is_none(house, weights, ((value,), mixture))
            self.is_none(house, weights, (((1, 1, nested(26)),), mixture))
            self.is_none(house, weights, (tuple((at, 1, 1) for at in range(4900)), mixture))

    def test_great_worths(self):
        house = (2, (0, EDGE, -EDGE, 0))
        self.is_one(house, (1, 1), (((-EDGE, 1, 2), (EDGE, 1, 3)), ((3, (0, 1)),)))
        self.is_none(house, (1, 1), (((1 - EDGE, 1, 2), (EDGE, 1, 3)), ((3, (0, 1)),)))
        self.is_one(house, (1, 1000), (((-EDGE // 1000, 1, 2), (EDGE, 1, 3)), ((3, (0, 1)),)))


if __name__ == "__main__":
    unittest.main()
