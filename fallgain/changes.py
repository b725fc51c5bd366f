"""Houses made of other houses: things that go, come or are joined, worths that are added, turned, folded or paid."""

from fallgain.errors import NoFit, NoHouse, NoPrices, NoThing, TooFew, TooGreat, TooMany
from fallgain.fewer import granting, leaving_out
from fallgain.houses import GREATEST_WORTH, check_house
from fallgain.pieces import are_prices
from fallgain.sets import MOST_THINGS, has_thing, is_thing, sums_of_sets, with_one


def bounded(house):
    """The house; refused where a worth is beyond what a house may have."""
    worths = house[1]
    if min(worths) < -GREATEST_WORTH or max(worths) > GREATEST_WORTH:
        raise TooGreat()
    return house


def check_thing(house, thing):
    """Refuse what is no thing of the house."""
    if not is_thing(house[0], thing):
        raise NoThing()


def check_goes(house, thing):
    """Refuse what is no thing of the house, then the last thing that is left."""
    check_thing(house, thing)
    if house[0] == 1:
        raise TooFew()


def check_prices(house, prices):
    """Refuse what are no prices for the house's things."""
    if not are_prices(prices, house[0]):
        raise NoPrices()


def without(house, thing):
    """The sets without the thing have the worths that they have."""
    check_goes(house, thing)
    return leaving_out(house, thing)


def granted(house, thing):
    """Each set of the other things has its worth with the thing, less that of the thing alone."""
    check_goes(house, thing)
    return bounded(granting(house, thing))


def together(house, one, other):
    """The things one and other are one thing, which has the lesser's number."""
    check_thing(house, one)
    check_thing(house, other)
    if one == other:
        raise NoThing()
    many, worths = house
    lesser, greater = min(one, other), max(one, other)
    bare = [members for members in range(len(worths)) if not has_thing(members, greater)]
    both = [with_one(members, greater) if has_thing(members, lesser) else members for members in bare]
    return (many - 1, tuple([worths[members] for members in both]))


def with_thing(house, worths):
    """One more thing, the last; worths are those of each set with it."""
    many, known = house
    if many == MOST_THINGS:
        raise TooMany()
    if not isinstance(worths, tuple):
        raise NoHouse()
    more = (many + 1, known + worths)
    check_house(more)
    return more


def beside(one, other):
    """The things of both, those of the other behind; a set has the worths of its parts together."""
    if one[0] + other[0] > MOST_THINGS:
        raise TooMany()
    # The one's sets come round again for each set of the other.
    return bounded((one[0] + other[0], tuple([worth + more for more in other[1] for worth in one[1]])))


def added(one, other):
    """Each set has both worths together."""
    if one[0] != other[0]:
        raise NoFit()
    return bounded((one[0], tuple([worth + more for worth, more in zip(one[1], other[1])])))


def turned(house):
    """A set has the worth of all things that are not in it, less that of all things."""
    many, worths = house
    # Backwards the worths are, for each set, those of all things that are not in it.
    return bounded((many, tuple([worth - worths[-1] for worth in worths[::-1]])))


def with_choice(worths, thing, price):
    """The worths where each set with the thing may have its worth without it, and the price, if that is less."""
    return [min(worth, worths[members ^ (1 << thing)] + price) if has_thing(members, thing) else worth
            for members, worth in enumerate(worths)]


def folded(house, prices):
    """A set has the least that its things come to, some of them by their worth, the others by prices."""
    check_prices(house, prices)
    many, worths = house
    for thing, price in enumerate(prices):
        worths = with_choice(worths, thing, price)
    return bounded((many, tuple(worths)))


def less_prices(house, prices):
    """Each set has its worth less the prices of its things, however great these are."""
    many, worths = house
    return bounded((many, tuple([worth - cost for worth, cost in zip(worths, sums_of_sets(prices))])))


def priced(house, prices):
    """Each set has its worth less the prices of its things."""
    check_prices(house, prices)
    return less_prices(house, prices)
