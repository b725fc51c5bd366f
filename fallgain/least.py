"""Least sets, and papers for them."""

from fallgain.apart import mixture_above
from fallgain.below import least_slack, slacks
from fallgain.errors import NoSet
from fallgain.sets import is_set


def low_prices(house):
    """Prices of at most 0, none above its thing's gain to all others, so that they are below."""
    many, worths = house
    whole = len(worths) - 1
    return [min(0, worths[whole] - worths[whole ^ (1 << thing)]) for thing in range(many)]


def raised_to_nought(house, prices):
    """The prices, raised thing by thing as far as 0 and the house let."""
    grown = list(prices)
    for thing in range(house[0]):
        grown[thing] += min(-grown[thing], least_slack(slacks(house, (grown, 1)), thing))
    return tuple(grown)


def least_mixture(house):
    """A mixture by whose row the prices below 0 come to the least worth."""
    return mixture_above(house, raised_to_nought(house, low_prices(house)))


def least(house):
    """The least set with the lowest number, and a mixture that shows that it is one."""
    worths = house[1]
    return (worths.index(min(worths)), least_mixture(house))


def least_within(house, has, lacks):
    """The least worth of the sets with all of has and none of lacks, and the first such set."""
    many, worths = house
    if not is_set(many, has) or not is_set(many, lacks) or has & lacks != 0:
        raise NoSet()
    within = [members for members in range(len(worths)) if members & (has | lacks) == has]
    return min([(worths[members], members) for members in within])
