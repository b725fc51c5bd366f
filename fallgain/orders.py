"""Orders of all things, and the prices that they tell."""

from fallgain.houses import gain
from fallgain.kinds import are_numbers
from fallgain.sets import with_one


def is_order(many, thing):
    """Whether this is an order of so many things."""
    return are_numbers(thing, many) and sorted(thing) == list(range(many))


def order_row(house, order):
    """For each thing, by its number, its gain to the things ahead of it."""
    prices = [0] * house[0]
    ahead = 0
    for thing in order:
        prices[thing] = gain(house, ahead, thing)
        ahead = with_one(ahead, thing)
    return tuple(prices)


def best_order(house, wishes):
    """The things by falling wishes, of alike ones the lesser first."""
    return tuple(sorted(range(house[0]), key=lambda thing: (-wishes[thing], thing)))


def stretched(house, wishes):
    """What the wishes come to by the row of their own order."""
    prices = order_row(house, best_order(house, wishes))
    return sum([wish * price for wish, price in zip(wishes, prices)])
