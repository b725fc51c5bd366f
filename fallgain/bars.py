"""Papers for all least sets, told with their bars."""

from fallgain.family import lowest, needs
from fallgain.familypaper import bar_house, due_bars
from fallgain.least import least, least_mixture


def bar_of(house, has, lacks):
    """The bar of these things whose mixture shows as much as one can."""
    left = bar_house(house, has, lacks)
    return (has, lacks, least_mixture(left) if left[0] > 0 else None)


def family_of(house):
    """A paper for all least sets of the house."""
    members, mixture = least(house)
    low, needed = lowest(house), needs(house)
    bars = tuple([bar_of(house, has, lacks) for has, lacks in due_bars(low, needed)])
    return (members, mixture, low, needed, bars)
