"""Papers for all least sets: tuples (set, mixture, low, needs, bars)."""

from fallgain.fewer import granting, leaving_out
from fallgain.fractions import is_less
from fallgain.kinds import is_tuple_of
from fallgain.leastpaper import below_nought, right_least
from fallgain.mixtures import is_mixture, mixture_row
from fallgain.sets import has_thing, is_set, is_thing, things_in


def is_set_worth(house, thing, worth):
    """Whether this is a set with just this worth."""
    return is_set(house[0], thing) and house[1][thing] == worth


def are_needs(house, thing, low, worth):
    """Whether each is None, or a set with the thing, all of low and this worth."""
    if not is_tuple_of(thing, house[0]):
        return False
    for at, need in enumerate(thing):
        if need is None:
            continue
        if not is_set_worth(house, need, worth) or not has_thing(need, at) or need & low != low:
            return False
    return True


def due_bars(low, needed):
    """The pairs (has, lacks) for which there must be bars, by low and needs."""
    pairs = [(None, lacks) for lacks in things_in(low)]
    for has, need in enumerate(needed):
        if need is None:
            pairs.append((has, None))
        else:
            others = [other for other in things_in(need) if other != has and not has_thing(low, other)]
            pairs.extend([(has, lacks) for lacks in others])
    return pairs


def bar_house(house, has, lacks):
    """The house in which has is granted, then lacks left out; not both are None."""
    if has is None:
        return leaving_out(house, lacks)
    left = granting(house, has)
    if lacks is None:
        return left
    # The things behind the granted one have numbers less by one there.
    return leaving_out(left, lacks - 1 if lacks > has else lacks)


def is_bar(many, thing):
    """Whether this is a bar, if only its mixture is one and it holds."""
    if not is_tuple_of(thing, 3):
        return False
    has, lacks, mixture = thing
    known = (has is None or is_thing(many, has)) and (lacks is None or is_thing(many, lacks))
    return known and has != lacks


def bar_holds(house, bar, worth):
    """Whether the bar shows that each set with has and without lacks is above this worth."""
    has, lacks, mixture = bar
    left = bar_house(house, has, lacks)
    alone = 0 if has is None else house[1][1 << has]
    if left[0] == 0:
        return mixture is None and alone > worth
    if not is_mixture(left[0], mixture):
        return False
    return is_less((worth - alone, 1), below_nought(mixture_row(left, mixture)))


def are_bars(house, thing, worth):
    """Whether this is a tuple of bars, and each of them holds."""
    if not isinstance(thing, tuple):
        return False
    return all([is_bar(house[0], bar) and bar_holds(house, bar, worth) for bar in thing])


def right_family(house, thing):
    """Whether this is a paper for all least sets of the house."""
    if not is_tuple_of(thing, 5):
        return False
    members, mixture, low, needed, bars = thing
    if not right_least(house, (members, mixture)):
        return False
    worth = house[1][members]
    if not is_set_worth(house, low, worth) or not are_needs(house, needed, low, worth):
        return False
    if not are_bars(house, bars, worth):
        return False
    barred = [(has, lacks) for has, lacks, told in bars]
    return all([pair in barred for pair in due_bars(low, needed)])
