"""Houses: tuples (many, worths) with a worth for each set, whose gains fall."""

from fallgain.errors import Crossing, NoHouse, NoSet, NoThing
from fallgain.kinds import are_between, is_tuple_of
from fallgain.sets import has_thing, is_many, is_set, is_thing, with_one

GREATEST_WORTH = 10 ** 15


def is_formed(thing):
    """Whether this is a house, if only its gains fall."""
    if not is_tuple_of(thing, 2) or not is_many(thing[0]):
        return False
    many, worths = thing
    return are_between(worths, 1 << many, -GREATEST_WORTH, GREATEST_WORTH) and worths[0] == 0


def falls(worths, members, one, other):
    """Whether two things bring the set no more together than each alone."""
    with_first = with_one(members, one)
    with_other = with_one(members, other)
    return worths[with_first] + worths[with_other] >= worths[with_first | with_other] + worths[members]


def check_gains(many, worths, members):
    """Refuse the first two things outside the set whose gains do not fall."""
    outside = [thing for thing in range(many) if not has_thing(members, thing)]
    for one in outside:
        for other in outside:
            if one < other and not falls(worths, members, one, other):
                raise Crossing(members, one, other)


def check_house(thing):
    """True of a house; what is none is refused."""
    if not is_formed(thing):
        raise NoHouse()
    many, worths = thing
    for members in range(len(worths)):
        check_gains(many, worths, members)
    return True


def worth(house, members):
    """The worth of a set."""
    many, worths = house
    if not is_set(many, members):
        raise NoSet()
    return worths[members]


def gain(house, members, thing):
    """What the thing adds to the set."""
    before = worth(house, members)
    if not is_thing(house[0], thing):
        raise NoThing()
    return worth(house, with_one(members, thing)) - before
