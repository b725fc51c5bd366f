"""Papers for all least sets: point 21, and what points 3 and 29 say of them."""

import copy
import itertools
import random
import unittest

from examples import (EDGE, FAR, changed, counted, drawn_mixture, edge_houses, houses_with_several, joined, least_by_all,
                      lowest_by_all, needs_by_all, nested, no_numbers, prices_of, some_houses, summed, ten_houses,
                      within)
from fallgain.family import told_by
from fallgain.familypaper import right_family
from fallgain.least import least
from fallgain.mixtures import mixture_row


def things_of(number):
    return [thing for thing in range(10) if number & 2 ** thing]


def bar_house(house, has, lacks):
    """The house of a bar, by the words of the document."""
    many, worths = house
    left = [thing for thing in range(many) if thing not in (has, lacks)]
    granted = 0 if has is None else 2 ** has
    told = []
    for number in range(2 ** len(left)):
        old = sum(2 ** left[at] for at in range(len(left)) if number & 2 ** at)
        told.append(worths[old | granted] - worths[granted])
    return (len(left), tuple(told))


def shows(house, mixture):
    """What the prices below 0 by the mixture's row come to."""
    return sum(min(0, price) for price in prices_of(mixture_row(house, mixture))) if mixture is not None else 0


def bar_for(house, has, lacks):
    """A bar of these things, that holds where one can."""
    left = bar_house(house, has, lacks)
    return (has, lacks, least(left)[1] if left[0] > 0 else None)


def can_hold(house, has, lacks):
    """Whether no least set has the one and lacks the other."""
    for number in least_by_all(house):
        if (has is None or number & 2 ** has) and (lacks is None or not number & 2 ** lacks):
            return False
    return True


def due_pairs(low, needed):
    """Of which things there must be bars, by the words of the document."""
    pairs = [(None, thing) for thing in things_of(low)]
    for thing, need in enumerate(needed):
        if need is None:
            pairs.append((thing, None))
        else:
            pairs += [(thing, other) for other in things_of(need) if other != thing and not low & 2 ** other]
    return pairs


def paper_for(house):
    """A right paper."""
    low, needed = lowest_by_all(house), needs_by_all(house)
    bars = tuple(bar_for(house, has, lacks) for has, lacks in due_pairs(low, needed))
    return (*least(house), low, needed, bars)


def all_pairs(many):
    """All has and lacks that a bar may have."""
    names = [None, *range(many)]
    return [pair for pair in itertools.product(names, repeat=2) if pair[0] != pair[1]]


def holds_by_words(house, bar, worth):
    """Whether a bar with a mixture of its house holds."""
    has, lacks, mixture = bar
    alone = 0 if has is None else house[1][2 ** has]
    return shows(bar_house(house, has, lacks), mixture) + alone > worth


def roots_by_words(house, low, needed, worth):
    """Whether low and needs, of the right kinds, are such as the document says."""
    for thing, need in enumerate(needed):
        if need is not None and not (need & 2 ** thing and within(low, need) and house[1][need] == worth):
            return False
    return house[1][low] == worth


def right_by_words(house, paper):
    """Whether a paper whose parts are all of the right kinds is a right one."""
    number, mixture, low, needed, bars = paper
    worth = house[1][number]
    if shows(house, mixture) != worth or not roots_by_words(house, low, needed, worth):
        return False
    barred = [bar[:2] for bar in bars]
    return all(holds_by_words(house, bar, worth) for bar in bars) and set(due_pairs(low, needed)) <= set(barred)


def small_houses():
    return some_houses() + houses_with_several() + edge_houses() + [summed(4, (0,) * 4), summed(5, (-1, 0, 1, 0, 2))]


SMALL = [(house, paper_for(house)) for house in small_houses()]


class FamilyPaperCase(unittest.TestCase):
    def is_one(self, house, paper):
        self.assertIs(right_family(house, paper), True, (house, paper))
        number, mixture, low, needed, bars = paper
        self.assertEqual(list(told_by(house[0], low, needed)), least_by_all(house))

    def is_none(self, house, thing):
        before = copy.deepcopy(thing)
        self.assertIs(right_family(house, thing), False, (house, thing))
        self.assertEqual(thing, before)

    def compare(self, house, paper):
        if right_by_words(house, paper):
            self.is_one(house, paper)
        else:
            self.is_none(house, paper)


class RightPapersTest(FamilyPaperCase):
    def test_right_papers(self):
        for house, paper in SMALL:
            self.is_one(house, paper)
            self.is_one(house, paper)

    def test_all_that_is_named_is_met(self):
        papers = [paper for house, paper in SMALL]
        kinds = set()
        for paper in papers:
            for has, lacks, mixture in paper[4]:
                kinds.add((has is None, lacks is None, mixture is None))
        self.assertTrue({(False, True, False), (True, False, False), (False, False, False)} <= kinds)
        self.assertTrue({(False, True, True), (True, False, True), (False, False, True)} <= kinds)
        both = [paper for paper in papers if len({(has is None, lacks is None) for has, lacks, told in paper[4]}) > 1]
        alone = [paper for paper in papers if len({(has is None, lacks is None) for has, lacks, told in paper[4]}) == 1]
        self.assertTrue(both and alone)
        self.assertTrue(any(None in paper[3] for paper in papers))
        self.assertTrue(any(paper[4] == () for paper in papers))
        beyond = [bar for house, paper in SMALL for bar in paper[4] if max(map(abs, bar_house(house, *bar[:2])[1])) > EDGE]
        self.assertTrue([bar for bar in beyond if bar[1] is None] and [bar for bar in beyond if None not in bar[:2]])

    def test_ten_things(self):
        for house in ten_houses():
            paper = paper_for(house)
            self.is_one(house, paper)
            for at in range(0, len(paper[4]), 7):
                self.is_none(house, changed(paper, 4, paper[4][:at] + paper[4][at + 1:]))

    def test_named_paper(self):
        house = (2, (0, 5, 5, -20))
        right = (3, ((1, (0, 1)),), 3, (3, 3), ((None, 0, ((1, (0,)),)), (None, 1, ((1, (0,)),))))
        # The one order's prices are 5 and -25, which shows less than the least worth.
        self.is_none(house, right)
        mixture = ((1, (0, 1)), (1, (1, 0)))
        self.is_one(house, changed(right, 1, mixture))

    def test_both_things_in_a_bar(self):
        house = (2, (0, 3, -1, -1))
        self.is_one(house, paper_for(house))
        house = (2, (0, 3, 0, 0))
        paper = paper_for(house)
        self.assertEqual(paper[2:4], (0, (3, 2)))
        self.assertEqual(paper[4], ((0, 1, None),))
        self.is_one(house, paper)
        self.is_none(house, changed(paper, 4, ((0, 1, ((1, (0,)),)),)))
        self.is_none(house, changed(paper, 4, ((0, 1, ((1, ()),)),)))
        self.is_none(house, changed(paper, 4, ((0, 1, ()),)))

    def test_a_bar_of_one_thing_alone(self):
        house = (1, (0, 7))
        self.is_one(house, (0, ((1, (0,)),), 0, (None,), ((0, None, None),)))
        self.is_none(house, (0, ((1, (0,)),), 0, (None,), ((0, None, ((1, (0,)),)),)))
        self.is_none(house, (0, ((1, (0,)),), 0, (None,), ((0, None, ((1, ()),)),)))
        self.is_none(house, (0, ((1, (0,)),), 0, (None,), ()))
        house = (1, (0, -7))
        self.is_one(house, (1, ((1, (0,)),), 1, (1,), ((None, 0, None),)))
        self.is_none(house, (1, ((1, (0,)),), 1, (1,), ((None, 0, ((1, (0,)),)),)))
        house = (1, (0, 0))
        self.is_one(house, (1, ((1, (0,)),), 0, (1,), ()))
        self.is_none(house, (1, ((1, (0,)),), 1, (1,), ()))
        self.is_none(house, (1, ((1, (0,)),), 0, (None,), ((0, None, None),)))


class SetsBentTest(FamilyPaperCase):
    def test_another_set(self):
        for house, paper in SMALL:
            for number in range(2 ** house[0]):
                self.compare(house, changed(paper, 0, number))

    def test_another_low(self):
        for house, paper in SMALL:
            for number in range(2 ** house[0]):
                self.compare(house, changed(paper, 2, number))
                if number != paper[2]:
                    self.is_none(house, changed(paper, 2, number))

    def test_another_need(self):
        for house, paper in SMALL:
            for thing in range(house[0]):
                for need in (None, *range(2 ** house[0])):
                    other = changed(paper, 3, changed(paper[3], thing, need))
                    self.compare(house, other)
                    if need != paper[3][thing]:
                        self.is_none(house, other)

    def test_another_need_with_all_bars_that_hold(self):
        for house, paper in SMALL:
            if house[0] <= 4:
                bars = tuple(bar_for(house, *pair) for pair in all_pairs(house[0]) if can_hold(house, *pair))
                self.is_one(house, changed(paper, 4, bars))
                for low in range(2 ** house[0]):
                    self.compare(house, changed(changed(paper, 4, bars), 2, low))
                for thing in range(house[0]):
                    for need in (None, *range(2 ** house[0])):
                        self.compare(house, changed(changed(paper, 4, bars), 3, changed(paper[3], thing, need)))

    def test_what_is_no_set(self):
        for house, paper in SMALL:
            beyond = 2 ** house[0]
            for value in [beyond, beyond + 1, -1, -beyond, FAR, -FAR, *no_numbers()]:
                self.is_none(house, changed(paper, 0, value))
                self.is_none(house, changed(paper, 2, value))
                for thing in range(house[0]):
                    if value is not None or paper[3][thing] is not None:
                        self.is_none(house, changed(paper, 3, changed(paper[3], thing, value)))

    def test_truths_that_are_alike(self):
        house = (1, (0, 0))
        right = (0, ((1, (0,)),), 0, (1,), ())
        self.is_one(house, right)
        self.is_none(house, changed(right, 0, False))
        self.is_none(house, changed(right, 2, False))
        self.is_none(house, changed(right, 3, (True,)))

    def test_needs_more_or_fewer(self):
        for house, paper in SMALL:
            needed = paper[3]
            for value in (needed[:-1], needed + (None,), needed + (paper[2],), list(needed), (), (needed,),
                          dict(enumerate(needed)), *no_numbers()):
                if value != needed:
                    self.is_none(house, changed(paper, 3, value))

    def test_least_sets_of_unlike_worths_do_not_mix(self):
        house = counted(2, (3, -3))
        for low, needed in itertools.product(range(4), itertools.product((None, 0, 1, 2, 3), repeat=2)):
            bars = tuple(bar_for(house, *pair) for pair in all_pairs(2) if can_hold(house, *pair))
            self.compare(house, (*least(house), low, needed, bars))


class MixtureBentTest(FamilyPaperCase):
    def test_drawn_mixtures(self):
        dice = random.Random(51)
        for house, paper in SMALL:
            for size in (1, 2, 4):
                self.compare(house, changed(paper, 1, drawn_mixture(dice, house[0], size, 5)))

    def test_what_is_no_mixture(self):
        for house, paper in SMALL:
            for value in ((), list(paper[1]), paper[1][0], ((0, paper[1][0][1]),), ((True, paper[1][0][1]),), *no_numbers()):
                self.is_none(house, changed(paper, 1, value))


class BarsBentTest(FamilyPaperCase):
    def with_bars(self, paper, bars):
        return changed(paper, 4, tuple(bars))

    def test_one_left_out(self):
        for house, paper in SMALL:
            for at in range(len(paper[4])):
                self.is_none(house, self.with_bars(paper, paper[4][:at] + paper[4][at + 1:]))

    def test_one_twice(self):
        for house, paper in SMALL:
            for bar in paper[4]:
                self.is_one(house, self.with_bars(paper, paper[4] + (bar,)))
                self.is_one(house, self.with_bars(paper, (bar,) + paper[4]))
            for at in range(1, len(paper[4])):
                self.is_none(house, self.with_bars(paper, changed(paper[4], at, paper[4][0])))

    def test_another_order(self):
        for house, paper in SMALL:
            for bars in list(itertools.permutations(paper[4][:5]))[:30]:
                self.is_one(house, self.with_bars(paper, bars + paper[4][5:]))
            self.is_one(house, self.with_bars(paper, paper[4][::-1]))

    def test_more_than_must_be(self):
        seen = 0
        for house, paper in SMALL:
            for has, lacks in all_pairs(house[0]):
                other = self.with_bars(paper, paper[4] + (bar_for(house, has, lacks),))
                if can_hold(house, has, lacks):
                    self.is_one(house, other)
                    seen += 1
                else:
                    # The mixture comes to just the worth.
                    self.is_none(house, other)
        self.assertGreater(seen, 100)

    def test_one_that_comes_to_just_the_worth(self):
        house = (2, (0, 0, 4, 4))
        paper = paper_for(house)
        self.is_one(house, paper)
        just = bar_for(house, 0, None)
        self.assertEqual(shows(bar_house(house, 0, None), just[2]) + house[1][1], 0)
        self.is_none(house, self.with_bars(paper, paper[4] + (just,)))
        self.is_none(house, self.with_bars(changed(paper, 3, (None, None)), paper[4] + (just,)))
        self.is_none(house, self.with_bars(changed(paper, 3, (None, None)), (bar_for(house, 1, None), just)))

    def test_of_other_things(self):
        for house, paper in SMALL:
            names = [None, *range(-1, house[0] + 1)]
            for at, (has, lacks, mixture) in enumerate(paper[4]):
                for one, other in itertools.product(names, repeat=2):
                    bars = changed(paper[4], at, (one, other, mixture))
                    if (one, other) != (has, lacks):
                        self.is_none(house, self.with_bars(paper, bars))

    def test_of_one_thing_twice_and_of_none_and_none(self):
        for house, paper in SMALL:
            mixture = paper[1]
            for bar in [(None, None, mixture), (None, None, None), *((at, at, mixture) for at in range(house[0])),
                        *((at, at, None) for at in range(house[0])),
                        *((at, at, ((1, tuple(range(house[0] - 1))),)) for at in range(house[0]))]:
                self.is_none(house, self.with_bars(paper, paper[4] + (bar,)))
                self.is_none(house, self.with_bars(paper, (bar,) + paper[4]))

    def test_what_is_no_thing(self):
        for house, paper in SMALL:
            for at, (has, lacks, mixture) in enumerate(paper[4][:3]):
                for value in [house[0], -1, FAR, -FAR, *no_numbers()]:
                    if value is not None:
                        self.is_none(house, self.with_bars(paper, changed(paper[4], at, (value, lacks, mixture))))
                        self.is_none(house, self.with_bars(paper, changed(paper[4], at, (has, value, mixture))))

    def test_mixtures_bent(self):
        dice = random.Random(52)
        for house, paper in SMALL:
            for at, (has, lacks, mixture) in enumerate(paper[4]):
                left = bar_house(house, has, lacks)[0]
                wrong = [(), ((1, tuple(range(left + 1))),), ((1, tuple(range(house[0]))),), *no_numbers()]
                if mixture is not None:
                    wrong += [((0, mixture[0][1]),), ((True, mixture[0][1]),), ((1, mixture[0][1][:-1]),), list(mixture),
                              [*mixture[0]], ((1, list(mixture[0][1])),), mixture + (None,), paper[1] + mixture]
                for value in wrong:
                    if value != mixture:
                        self.is_none(house, self.with_bars(paper, changed(paper[4], at, (has, lacks, value))))
                for size in (1, 2) if left > 0 else ():
                    other = (has, lacks, drawn_mixture(dice, left, size, 4))
                    self.compare(house, self.with_bars(paper, changed(paper[4], at, other)))

    def test_numbers_behind_the_granted_thing(self):
        house = joined(counted(3, (6, 4, -9)), summed(3, (0, -2, 7)))
        paper = paper_for(house)
        for has, lacks in itertools.permutations(range(3), 2):
            for mixture in (((1, (0,)),), ((1, (1,)),), ((1, (2,)),), None, ((1, (0, 1)),)):
                right = mixture == ((1, (0,)),) and holds_by_words(house, (has, lacks, mixture), house[1][paper[0]])
                self.assertIs(right_family(house, self.with_bars(paper, paper[4] + ((has, lacks, mixture),))), right)

    def test_parts_of_bars_more_or_fewer(self):
        for house, paper in SMALL:
            for at, bar in enumerate(paper[4][:3]):
                for value in (bar[:2], bar[1:], bar + (None,), bar + (0,), list(bar), (bar,), (), (bar[1], bar[0], bar[2]),
                              dict(enumerate(bar)), bar[2], *no_numbers()):
                    self.is_none(house, self.with_bars(paper, changed(paper[4], at, value)))
                self.is_none(house, self.with_bars(paper, paper[4] + (bar[:2],)))

    def test_what_are_no_bars(self):
        for house, paper in SMALL:
            for value in (list(paper[4]), (paper[4],), dict(enumerate(paper[4])), *no_numbers()):
                if value != paper[4]:
                    self.is_none(house, changed(paper, 4, value))

    def test_very_many_bars(self):
        house = ten_houses()[1]
        paper = paper_for(house)
        bars = paper[4] * (1000 // len(paper[4]))
        self.is_one(house, self.with_bars(paper, bars))
        self.is_none(house, self.with_bars(paper, bars + ((0, 1, None),)))


class AnythingTest(FamilyPaperCase):
    def test_parts_more_or_fewer(self):
        for house, paper in SMALL:
            for value in (list(paper), paper[:4], paper[1:], paper + (None,), paper + ((),), (paper,), paper[:2],
                          paper[::-1], dict(enumerate(paper))):
                self.is_none(house, value)
            for one, other in itertools.combinations(range(5), 2):
                value = changed(changed(paper, one, paper[other]), other, paper[one])
                if value != paper:
                    self.is_none(house, value)

    def test_anything(self):
        for house in (some_houses()[0], some_houses()[-1], ten_houses()[0]):
            for value in [0, 1, FAR, -FAR, *no_numbers(), nested(29), "x" * 100000, tuple(range(20000)), (None,) * 5,
                          ((),) * 5, ([],) * 5, ({},) * 5, (0,) * 5, ("",) * 5, (nested(28),) * 2 + (0, 0, 0)]:
                self.is_none(house, value)

    def test_anything_in_each_part(self):
        for house in (some_houses()[0], some_houses()[-1], ten_houses()[0]):
            paper = paper_for(house)
            for at in range(5):
                for value in [FAR, -FAR, *no_numbers(), nested(28), "x" * 100000, tuple(range(19000)), (nested(20),)]:
                    if value != paper[at]:
                        self.is_none(house, changed(paper, at, value))


if __name__ == "__main__":
    unittest.main()
