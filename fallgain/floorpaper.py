"""Papers for a row between a house and a floor, or for a set at which they cross."""

from fallgain.errors import NoFit
from fallgain.kinds import are_numbers, is_tuple_of
from fallgain.mixtures import is_mixture, mixture_row
from fallgain.sets import is_set


def right_cross(house, floor, thing):
    """Whether this is a set at which the floor's worth is above the house's."""
    return is_set(house[0], thing) and floor[1][thing] > house[1][thing]


def none_above(prices, row):
    """Whether no thing costs more by these whole prices than by the row."""
    numbers, bottom = row
    return all([price * bottom <= number for price, number in zip(prices, numbers)])


def none_below(prices, row):
    """Whether no thing costs less by these whole prices than by the row."""
    numbers, bottom = row
    return all([price * bottom >= number for price, number in zip(prices, numbers)])


def right_row(house, floor, prices, over, under):
    """Whether these are whole prices, and mixtures of the house and the floor that hold them between."""
    many = house[0]
    if not are_numbers(prices, many) or not is_mixture(many, over) or not is_mixture(many, under):
        return False
    return none_above(prices, mixture_row(house, over)) and none_below(prices, mixture_row(floor, under))


def right_between(house, floor, thing):
    """Whether this shows a set at which house and floor cross, or a row between them."""
    if house[0] != floor[0]:
        raise NoFit()
    if is_tuple_of(thing, 2) and thing[0] == "cross":
        return right_cross(house, floor, thing[1])
    if is_tuple_of(thing, 4) and thing[0] == "row":
        return right_row(house, floor, thing[1], thing[2], thing[3])
    return False
