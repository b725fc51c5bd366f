"""Papers for least sets: pairs (set, mixture)."""

from fallgain.fractions import lowest_terms
from fallgain.kinds import is_tuple_of
from fallgain.mixtures import is_mixture, mixture_row
from fallgain.sets import is_set


def below_nought(row):
    """What the prices below 0 come to together, a fraction."""
    numbers, bottom = row
    return lowest_terms(sum([number for number in numbers if number < 0]), bottom)


def right_least(house, thing):
    """Whether this is a paper for a least set of the house."""
    many, worths = house
    if not is_tuple_of(thing, 2):
        return False
    members, mixture = thing
    if not is_set(many, members) or not is_mixture(many, mixture):
        return False
    return below_nought(mixture_row(house, mixture)) == (worths[members], 1)
