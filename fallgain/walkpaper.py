"""Walks from a full row to another one: tuples of exchanges (one, other, amount)."""

from fallgain.apart import check_full
from fallgain.below import slacks
from fallgain.fractions import common_multiple, is_fraction
from fallgain.kinds import is_tuple_of
from fallgain.rooms import least_between, slacks_behind
from fallgain.sets import is_thing


def is_exchange(many, thing):
    """Whether this is an exchange of so many things, wherever it leads."""
    if not is_tuple_of(thing, 3) or not is_thing(many, thing[0]) or not is_thing(many, thing[1]):
        return False
    return is_fraction(thing[2]) and thing[2][0] > 0


def are_exchanges(many, thing):
    """Whether this is a tuple of exchanges of so many things."""
    return isinstance(thing, tuple) and all([is_exchange(many, part) for part in thing])


def numbers_over(row, bottom):
    """The row's numbers over another bottom, which its own divides."""
    return [number * (bottom // row[1]) for number in row[0]]


def lacks_over(row, other, bottom):
    """How much each price lacks of that in the other row, times bottom, which both bottoms divide."""
    return [there - here for here, there in zip(numbers_over(row, bottom), numbers_over(other, bottom))]


def made_whole(exchanges, bottom):
    """The exchanges, each amount times bottom, which all their own bottoms divide."""
    return [(one, other, top * (bottom // own)) for one, other, (top, own) in exchanges]


def lead_there(lacks, exchanges):
    """Whether the prices, which lack so much, come to where they are to be, none moving away or past it."""
    still = list(lacks)
    for one, other, amount in exchanges:
        if still[one] < amount or still[other] > -amount:
            return False
        still[one] -= amount
        still[other] += amount
    return still == [0] * len(lacks)


def stay_below(left, exchanges):
    """Whether by each exchange no set comes to cost more than its worth; left has each set's slack at first."""
    for one, other, amount in exchanges:
        if least_between(left, one, other) < amount:
            return False
        left = slacks_behind(left, one, other, amount)
    return True


def right_walk(house, row, other, thing):
    """Whether this is a walk from the row to the other one."""
    check_full(house, row)
    check_full(house, other)
    if not are_exchanges(house[0], thing):
        return False
    # Over a common bottom all is whole, and nothing has to be put in lowest terms on the way.
    bottom = common_multiple([row[1], other[1]] + [amount[1] for grows, falls, amount in thing])
    exchanges = made_whole(thing, bottom)
    if not lead_there(lacks_over(row, other, bottom), exchanges):
        return False
    return stay_below(slacks(house, (numbers_over(row, bottom), bottom)), exchanges)
