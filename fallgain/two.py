"""A greatest row below two houses, with a paper for it."""

from fallgain.apart import mixture_above
from fallgain.between import prices_between
from fallgain.errors import NoFit
from fallgain.twopaper import shared_out


def least_shared(one, other):
    """The least of what sets and their rests are worth, and the first set of that worth."""
    return min([(shared_out(one, other, members), members) for members in range(len(one[1]))])


def prices_below(one, other, least):
    """Whole prices below both houses that come to the least of what sets and their rests are worth."""
    many = one[0]
    # Backwards the worths are, for each set, those of all things that are not in it.
    rests = [least - worth for worth in other[1][::-1]]
    return prices_between((many, one[1][:-1] + (least,)), (many, [0] + rests[1:]))


def common(one, other):
    """A paper for a greatest row below both houses."""
    if one[0] != other[0]:
        raise NoFit()
    least, members = least_shared(one, other)
    prices = prices_below(one, other, least)
    return (prices, members, mixture_above(one, prices), mixture_above(other, prices))
