"""All least sets of a house, and what tells them."""

from fallgain.errors import NoThing
from fallgain.least import least_within
from fallgain.sets import has_thing, is_thing, things_in


def least_sets(house):
    """All least sets, rising."""
    worths = house[1]
    fewest = min(worths)
    return tuple([members for members, worth in enumerate(worths) if worth == fewest])


def in_all(some):
    """The set of the things that are in all of one or more sets."""
    common = some[0]
    for members in some:
        common = common & members
    return common


def in_any(some):
    """The set of the things that are in one or more of the sets."""
    together = 0
    for members in some:
        together = together | members
    return together


def lowest(house):
    """The set of the things that are in all least sets."""
    return in_all(least_sets(house))


def highest(house):
    """The set of the things that are in one or more least sets."""
    return in_any(least_sets(house))


def need_of(some, thing):
    """The things that are in each of the sets that have the thing; None where none has it."""
    having = [members for members in some if has_thing(members, thing)]
    return in_all(having) if len(having) > 0 else None


def needs(house):
    """For each thing, what is in each least set that has it, or None."""
    some = least_sets(house)
    return tuple([need_of(some, thing) for thing in range(house[0])])


def has_needs(members, needed):
    """Whether the set has, for each of its things, all that this thing needs."""
    for thing in things_in(members):
        need = needed[thing]
        if need is None or members & need != need:
            return False
    return True


def told_by(many, low, needed):
    """All sets that have all of low and what each of their things needs, rising."""
    having = [members for members in range(1 << many) if members & low == low]
    return tuple([members for members in having if has_needs(members, needed)])


def turning(house, thing):
    """The least worth of the sets with the thing less that of the sets without it."""
    if not is_thing(house[0], thing):
        raise NoThing()
    alone = 1 << thing
    return least_within(house, alone, 0)[0] - least_within(house, 0, alone)[0]
