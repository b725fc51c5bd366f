"""Houses and other values that several tests ask about."""

import math
import random
from fractions import Fraction

FAR = 10 ** 59
EDGE = 10 ** 15
BOUND = 10 ** 9


def nested(depth):
    """A tuple in a tuple, so many deep."""
    value = ()
    for step in range(depth):
        value = (value,) if step & 1 else [value]
    return (value,)


def no_numbers():
    """Values that are no numbers."""
    return [True, False, None, "", "1", "text\n", (), (1,), [], [0], {}, {0: 1}, nested(28)]


def bits(number):
    """How many things the set has."""
    return bin(number).count("1")


def house_by(many, tell):
    """The tuple of the worths that tell gives to the sets."""
    return (many, tuple(tell(number) for number in range(2 ** many)))


def counted(many, gains):
    """The house in which a set has as many of the first gains as things."""
    return house_by(many, lambda number: sum(gains[:bits(number)]))


def covered(many, groups):
    """The house in which a set has how many groups it meets."""
    return house_by(many, lambda number: sum(1 for group in groups if number & group))


def summed(many, prices):
    """The house in which a set has the prices of its things."""
    return house_by(many, lambda number: sum(prices[i] for i in range(many) if number & 2 ** i))


def joined(one, other):
    """The house in which each set has both worths together."""
    return (one[0], tuple(a + b for a, b in zip(one[1], other[1])))


def some_houses():
    """Houses of one to five things, of several kinds."""
    dice = random.Random(5)
    houses = [(1, (0, 0)), (1, (0, -7)), (1, (0, EDGE)), (2, (0, 3, 4, 5)), (2, (0, -3, -4, -7)), (2, (0, 5, 5, -20))]
    for many in (3, 3, 3, 4, 4, 5):
        gains = sorted([dice.randint(-9, 9) for thing in range(many)], reverse=True)
        groups = [dice.randint(1, 2 ** many - 1) for group in range(6)]
        prices = [dice.randint(-5, 5) for thing in range(many)]
        houses.append(counted(many, gains))
        houses.append(joined(covered(many, groups), summed(many, prices)))
        houses.append(joined(houses[-1], houses[-2]))
    return houses


def changed(values, at, value):
    """The tuple with another value at this place."""
    return values[:at] + (value,) + values[at + 1:]


def cost(prices, number):
    """What the set's things cost together."""
    return sum(price for thing, price in enumerate(prices) if number & 2 ** thing)


def prices_of(row):
    """The prices of a row, as Python's own fractions."""
    return [Fraction(number, row[1]) for number in row[0]]


def row_with(prices):
    """The row with these prices, ints or Python's own fractions."""
    prices = [Fraction(price) for price in prices]
    bottom = math.lcm(*[price.denominator for price in prices])
    return (tuple(int(price * bottom) for price in prices), bottom)


def drawn_orders(dice, many, size):
    """So many orders, drawn by the dice."""
    return [tuple(dice.sample(range(many), many)) for turn in range(size)]


def drawn_mixture(dice, many, size, greatest):
    """A mixture of so many pairs, with counts up to the greatest."""
    return tuple((dice.randint(1, greatest), order) for order in drawn_orders(dice, many, size))


def ten_houses():
    """Houses of ten things, of several kinds."""
    counts = counted(10, (5, 5, 4, 2, 2, 0, 0, -1, -3, -9))
    covers = covered(10, (3, 6, 1023, 640, 96, 97, 513))
    return [counts, joined(covers, summed(10, tuple(range(-5, 5)))), joined(counts, summed(10, (-3, 2) * 5))]


def paid(house, prices):
    """The house in which each set has its worth less the prices of its things."""
    return joined(house, summed(house[0], tuple(-price for price in prices)))


def gains_along(house, order):
    """For each thing what it adds to the things ahead of it, by the words of the document."""
    prices = [0] * house[0]
    ahead = 0
    for thing in order:
        prices[thing] = house[1][ahead | 2 ** thing] - house[1][ahead]
        ahead |= 2 ** thing
    return tuple(prices)


def beginnings(order):
    """The sets of the first things of an order."""
    return [sum(2 ** thing for thing in order[:size]) for size in range(len(order) + 1)]


def houses_with_several():
    """Houses with several least sets: all beginnings of an order are such."""
    dice = random.Random(17)
    houses = []
    for house in some_houses():
        # Worths at the bound would go beyond it.
        if max(map(abs, house[1])) < EDGE // 2:
            for order in drawn_orders(dice, house[0], 2):
                houses.append(paid(house, gains_along(house, order)))
    return houses


def edge_houses():
    """Houses with worths at the bound, so that some go beyond it where a thing is granted."""
    houses = [(1, (0, EDGE)), (1, (0, -EDGE)), (2, (0, EDGE, EDGE, -EDGE)), (2, (0, EDGE, -EDGE, -EDGE)),
              (2, (0, EDGE, -EDGE, 1 - EDGE)), (2, (0, 0, EDGE, 0)), (3, (0, EDGE, EDGE, 0, EDGE, 0, 0, -EDGE)),
              (3, (0, EDGE, 7, 0, EDGE - 1, 0, 0, -EDGE)),
              (3, (0, EDGE, -EDGE, 5 - EDGE, EDGE, EDGE, 5 - EDGE, -EDGE))]
    for gain in (EDGE // 3, EDGE):
        houses.append(counted(3, (gain, 0, -EDGE)))
        houses.append(counted(4, (gain, 0, 0, -EDGE)))
    return houses


def least_by_all(house):
    """All least sets, by all sets."""
    fewest = min(house[1])
    return [number for number in range(2 ** house[0]) if house[1][number] == fewest]


def lowest_by_all(house):
    """The things that are in all least sets."""
    told = least_by_all(house)
    return sum(2 ** thing for thing in range(house[0]) if all(number & 2 ** thing for number in told))


def needs_by_all(house):
    """For each thing what is in each least set that has it, or None."""
    told = []
    for thing in range(house[0]):
        having = [number for number in least_by_all(house) if number & 2 ** thing]
        common = [at for at in range(house[0]) if all(number & 2 ** at for number in having)]
        told.append(sum(2 ** at for at in common) if having else None)
    return tuple(told)


def within(lesser, greater):
    """Whether the one set lies within the other."""
    return lesser & greater == lesser


def row_by_words(house, mixture):
    """A mixture's row, of a house or a floor, by the words of the document."""
    prices = [Fraction(0)] * house[0]
    together = sum(count for count, order in mixture)
    for count, order in mixture:
        prices = [price + Fraction(count * gain, together) for price, gain in zip(prices, gains_along(house, order))]
    return row_with(prices)


def noughts(many):
    """The house in which all sets have the worth 0."""
    return summed(many, (0,) * many)


def drawn_house(dice, many):
    """A house of several kinds put together, drawn by the dice."""
    gains = sorted([dice.randint(-4, 9) for thing in range(many)], reverse=True)
    groups = [dice.randint(1, 2 ** many - 1) for group in range(6)]
    prices = [dice.randint(-4, 4) for thing in range(many)]
    return joined(counted(many, gains), joined(covered(many, groups), summed(many, prices)))


def turned_signs(house):
    """The same worths, each with the opposite sign."""
    return (house[0], tuple(-worth for worth in house[1]))


def is_plain(value):
    """Whether this is made of ints, tuples and None alone."""
    return all(map(is_plain, value)) if type(value) is tuple else value is None or type(value) is int


def weights_for(many):
    """Weights that are all alike, and unlike ones."""
    dice = random.Random(many)
    return [(1,) * many, (1000,) * many, tuple(dice.randint(1, 1000) for thing in range(many)),
            tuple(dice.randint(1, 3) for thing in range(many)), tuple((1, 1000)[thing & 1] for thing in range(many))]


def left_with_least(house, weights, price):
    """All sets that are left with least by this price, one of Python's own fractions."""
    left = [worth * price.denominator - price.numerator * cost(weights, number) for number, worth in enumerate(house[1])]
    fewest = min(left)
    return [number for number, worth in enumerate(left) if worth == fewest]


def whole_set(many):
    """The set of all things."""
    return 2 ** many - 1


def small_floors(dice, house):
    """Floors of as many things that lie below the house, and some that touch it."""
    many = house[0]
    floors = []
    for order in drawn_orders(dice, many, 2):
        prices = gains_along(house, order)
        floors.append(summed(many, prices))
        mixed = prices_of(row_by_words(house, drawn_mixture(dice, many, 3, 9)))
        lower = [price.numerator // price.denominator - dice.randint(0, 2) for price in mixed]
        groups = [dice.randint(1, whole_set(many)) for group in range(dice.randint(0, 4))]
        # A cover is nowhere below 0, so that prices less a cover are a floor below the prices.
        floors.append(turned_signs(paid(covered(many, groups), lower)))
    return floors


def raised_by_words(house, prices, order):
    """The prices, each raised in this order as far as the house lets, by all sets."""
    grown = [Fraction(price) for price in prices]
    for thing in order:
        having = [number for number in range(2 ** house[0]) if number & 2 ** thing]
        grown[thing] += min(house[1][number] - cost(grown, number) for number in having)
    return grown


def full_rows(dice, house, size):
    """Full rows of a house: of orders, of mixtures, and raised ones, so many of each."""
    many = house[0]
    rows = []
    for order in drawn_orders(dice, many, size):
        rows.append((gains_along(house, order), 1))
        rows.append(row_by_words(house, drawn_mixture(dice, many, dice.randint(1, 4), 9)))
        prices = [price - Fraction(dice.randint(0, 9), dice.randint(1, 4)) for price in prices_of(rows[-1])]
        rows.append(row_with(raised_by_words(house, prices, order)))
    return rows


def is_full_by_words(house, prices):
    """Whether no set costs more than its worth, and all things just theirs."""
    left = [worth - cost(prices, number) for number, worth in enumerate(house[1])]
    return min(left) >= 0 and left[-1] == 0


def seven_houses():
    """Houses of seven things."""
    dice = random.Random(7)
    return [drawn_house(dice, 7), drawn_house(dice, 7), counted(7, (9, 4, 4, 1, 0, -2, -8))]


def passing_row(house):
    """A row that passes a set, and the first such set."""
    prices = tuple(house[1][2 ** thing] + 1 for thing in range(house[0]))
    return ((prices, 1), min(number for number, worth in enumerate(house[1]) if cost(prices, number) > worth))
