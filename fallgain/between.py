"""A row of whole prices between a house and a floor, or the first set at which they cross."""

from fallgain.apart import mixture_above
from fallgain.errors import NoFit
from fallgain.floors import signs_turned


def first_crossing(house, floor):
    """The first set at which the floor's worth is above the house's, or None."""
    for members, worth in enumerate(floor[1]):
        if worth > house[1][members]:
            return members
    return None


def prices_between(house, floor):
    """Whole prices by which each set lies between both worths, where house and floor do not cross."""
    over, under = house[1], floor[1]
    prices = []
    # The last of the things that are left goes each time: the sets that have it are
    # the second half, in the same order as the first half, which are those without it.
    while len(over) > 1:
        half = len(over) // 2
        price = max([high - low for high, low in zip(under[half:], over[:half])])
        over = [min(bare, more - price) for bare, more in zip(over[:half], over[half:])]
        under = [max(bare, more - price) for bare, more in zip(under[:half], under[half:])]
        prices.append(price)
    return tuple(prices[::-1])


def between(house, floor):
    """The first set at which house and floor cross, or a row between them with both mixtures."""
    if house[0] != floor[0]:
        raise NoFit()
    where = first_crossing(house, floor)
    if where is not None:
        return ("cross", where)
    prices = prices_between(house, floor)
    # A floor's order has the prices that it has in the house with each sign turned, turned.
    under = mixture_above(signs_turned(floor), tuple([-price for price in prices]))
    return ("row", prices, mixture_above(house, prices), under)
