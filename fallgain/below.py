"""Rows of prices below a house, and how far they can be raised."""

from fallgain.errors import Passes
from fallgain.fractions import lowest_terms
from fallgain.rows import row_of
from fallgain.sets import has_thing, sums_of_sets


def slacks(house, row):
    """For each set its worth less its price, times bottom, so that it is whole."""
    numbers, bottom = row
    return [worth * bottom - cost for worth, cost in zip(house[1], sums_of_sets(numbers))]


def passed(house, row):
    """The first set whose price is above its worth, or None."""
    for members, slack in enumerate(slacks(house, row)):
        if slack < 0:
            return members
    return None


def is_below(house, row):
    """Whether no set's price is above its worth."""
    return passed(house, row) is None


def is_full(house, row):
    """Whether the row is below, and all things cost just their worth."""
    left = slacks(house, row)
    return min(left) >= 0 and left[-1] == 0


def check_below(house, row):
    """Refuse a row that passes a set."""
    where = passed(house, row)
    if where is not None:
        raise Passes(where)


def least_slack(left, thing):
    """The least slack of the sets that have the thing."""
    return min([slack for members, slack in enumerate(left) if has_thing(members, thing)])


def room_up(house, row, thing):
    """How much the price of the thing may grow alone."""
    check_below(house, row)
    return lowest_terms(least_slack(slacks(house, row), thing), row[1])


def raised(house, row, order):
    """The row in which, in this order, each price has grown by its room."""
    check_below(house, row)
    numbers, bottom = list(row[0]), row[1]
    for thing in order:
        # A room's top over the row's own bottom is whole, so bottom can stay.
        numbers[thing] += least_slack(slacks(house, (numbers, bottom)), thing)
    return row_of(numbers, bottom)
