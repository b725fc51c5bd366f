"""Papers for a row below two houses that is as great as can be: tuples (row, set, left, right)."""

from fallgain.errors import NoFit
from fallgain.floorpaper import none_above
from fallgain.kinds import are_numbers, is_tuple_of
from fallgain.mixtures import is_mixture, mixture_row
from fallgain.sets import is_set


def shared_out(one, other, members):
    """The one's worth of the set and the other's of all things that are not in it, together."""
    return one[1][members] + other[1][len(other[1]) - 1 - members]


def right_common(one, other, thing):
    """Whether this is a paper for a greatest row below both houses."""
    if one[0] != other[0]:
        raise NoFit()
    if not is_tuple_of(thing, 4):
        return False
    many = one[0]
    prices, members, left, right = thing
    if not are_numbers(prices, many) or not is_set(many, members):
        return False
    if not is_mixture(many, left) or not is_mixture(many, right):
        return False
    if not none_above(prices, mixture_row(one, left)) or not none_above(prices, mixture_row(other, right)):
        return False
    return sum(prices) == shared_out(one, other, members)
