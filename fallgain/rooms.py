"""How much may be exchanged between the prices of two things."""

from fallgain.apart import check_full
from fallgain.below import slacks
from fallgain.errors import NoThing
from fallgain.fractions import lowest_terms
from fallgain.sets import has_thing, is_thing


def loses(members, one, other):
    """Whether the set's slack falls where the price of one grows and that of other falls."""
    return has_thing(members, one) and not has_thing(members, other)


def least_between(left, one, other):
    """The least slack of the sets that have the one and not the other; left has each set's slack."""
    return min([slack for members, slack in enumerate(left) if loses(members, one, other)])


def slack_behind(members, slack, one, other, amount):
    """The set's slack when the price of one has grown by the amount, and that of other fallen."""
    if loses(members, one, other):
        return slack - amount
    if loses(members, other, one):
        return slack + amount
    return slack


def slacks_behind(left, one, other, amount):
    """What slack_behind tells of each set."""
    return [slack_behind(members, slack, one, other, amount) for members, slack in enumerate(left)]


def room(house, row, one, other):
    """How much the price of one may grow and that of other fall such that the row stays full."""
    check_full(house, row)
    if not is_thing(house[0], one) or not is_thing(house[0], other) or one == other:
        raise NoThing()
    return lowest_terms(least_between(slacks(house, row), one, other), row[1])
