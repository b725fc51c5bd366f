"""Houses and other values that several tests ask about."""

import math
import random
from fractions import Fraction

FAR = 10 ** 59
EDGE = 10 ** 15
BOUND = 10 ** 9


def nested(depth):
    """A tuple in a tuple, so many deep."""
    value = ()
    for step in range(depth):
        value = (value,) if step & 1 else [value]
    return (value,)


def no_numbers():
    """Values that are no numbers."""
    return [True, False, None, "", "1", "text\n", (), (1,), [], [0], {}, {0: 1}, nested(28)]


def bits(number):
    """How many things the set has."""
    return bin(number).count("1")


def house_by(many, tell):
    """The tuple of the worths that tell gives to the sets."""
    return (many, tuple(tell(number) for number in range(2 ** many)))


def counted(many, gains):
    """The house in which a set has as many of the first gains as things."""
    return house_by(many, lambda number: sum(gains[:bits(number)]))


def covered(many, groups):
    """The house in which a set has how many groups it meets."""
    return house_by(many, lambda number: sum(1 for group in groups if number & group))


def summed(many, prices):
    """The house in which a set has the prices of its things."""
    return house_by(many, lambda number: sum(prices[i] for i in range(many) if number & 2 ** i))


def joined(one, other):
    """The house in which each set has both worths together."""
    return (one[0], tuple(a + b for a, b in zip(one[1], other[1])))


def some_houses():
    """Houses of one to five things, of several kinds."""
    dice = random.Random(5)
    houses = [(1, (0, 0)), (1, (0, -7)), (1, (0, EDGE)), (2, (0, 3, 4, 5)), (2, (0, -3, -4, -7)), (2, (0, 5, 5, -20))]
    for many in (3, 3, 3, 4, 4, 5):
        gains = sorted([dice.randint(-9, 9) for thing in range(many)], reverse=True)
        groups = [dice.randint(1, 2 ** many - 1) for group in range(6)]
        prices = [dice.randint(-5, 5) for thing in range(many)]
        houses.append(counted(many, gains))
        houses.append(joined(covered(many, groups), summed(many, prices)))
        houses.append(joined(houses[-1], houses[-2]))
    return houses


def changed(values, at, value):
    """The tuple with another value at this place."""
    return values[:at] + (value,) + values[at + 1:]


def cost(prices, number):
    """What the set's things cost together."""
    return sum(price for thing, price in enumerate(prices) if number & 2 ** thing)


def prices_of(row):
    """The prices of a row, as Python's own fractions."""
    return [Fraction(number, row[1]) for number in row[0]]


def row_with(prices):
    """The row with these prices, ints or Python's own fractions."""
    prices = [Fraction(price) for price in prices]
    bottom = math.lcm(*[price.denominator for price in prices])
    return (tuple(int(price * bottom) for price in prices), bottom)
