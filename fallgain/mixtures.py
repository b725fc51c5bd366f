"""Mixtures of orders: tuples of pairs (count, order), and their rows."""

from fallgain.kinds import is_number, is_tuple_of
from fallgain.orders import is_order, order_row
from fallgain.rows import row_of


def is_share(many, thing):
    """Whether this is a pair of a count and an order of so many things."""
    return is_tuple_of(thing, 2) and is_number(thing[0]) and thing[0] >= 1 and is_order(many, thing[1])


def is_mixture(many, thing):
    """Whether this is a mixture of so many things."""
    if not isinstance(thing, tuple) or len(thing) == 0:
        return False
    return all([is_share(many, pair) for pair in thing])


def mixture_row(house, mixture):
    """The prices of all orders' rows together, each by its share of the counts."""
    sums = [0] * house[0]
    for count, order in mixture:
        prices = order_row(house, order)
        sums = [known + count * price for known, price in zip(sums, prices)]
    return row_of(sums, sum([count for count, order in mixture]))
