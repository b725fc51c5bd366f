"""Steps by which the least sets grow with a price for all things, and the levellest row."""

from fallgain.apart import taken_apart
from fallgain.below import slacks
from fallgain.family import highest, in_any, lowest
from fallgain.fractions import is_less, lowest_terms
from fallgain.sets import sum_over
from fallgain.steppaper import grows, steps_row


def turning_price(house, weights, ahead, members):
    """The price, a fraction, by which a set beyond the set ahead is left with just as much."""
    more = house[1][members] - house[1][ahead]
    return lowest_terms(more, sum_over(weights, members ^ ahead))


def least_price(prices):
    """The least of one or more prices, which are fractions."""
    best = prices[0]
    for price in prices:
        if is_less(price, best):
            best = price
    return best


def next_step(house, weights, ahead):
    """The step behind the set ahead."""
    beyond = [members for members in range(len(house[1])) if grows(ahead, members)]
    prices = [turning_price(house, weights, ahead, members) for members in beyond]
    best = least_price(prices)
    # By that price the sets that are left with just as much are so together, too.
    together = in_any([members for price, members in zip(prices, beyond) if price == best])
    return (best[0], best[1], together)


def all_steps(house, weights):
    """All steps of the house by these weights."""
    steps = []
    ahead = 0
    while ahead != len(house[1]) - 1:
        steps.append(next_step(house, weights, ahead))
        ahead = steps[-1][2]
    return tuple(steps)


def steps_of(house, weights):
    """A paper for the steps of the house by these weights."""
    steps = all_steps(house, weights)
    return (steps, taken_apart(house, steps_row(weights, steps)))


def levellest(house, weights):
    """The full row that is as level as can be."""
    return steps_row(weights, all_steps(house, weights))


def lean(house, weights, top, bottom):
    """Which things are in all sets that are left with least by the price, and which in one or more."""
    many = house[0]
    # What the sets are left with, times bottom, so that it is whole.
    left = (many, slacks(house, ([weight * top for weight in weights], bottom)))
    return (lowest(left), highest(left))
