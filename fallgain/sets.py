"""Sets of things, told by numbers: thing i counts 2 to the power of i."""

from fallgain.kinds import is_between, is_number

MOST_THINGS = 10


def is_many(thing):
    """Whether there can be so many things."""
    return is_between(thing, 1, MOST_THINGS)


def is_thing(many, thing):
    """Whether this is one of so many things."""
    return is_between(thing, 0, many - 1)


def is_set(many, thing):
    """Whether this is a set of so many things."""
    return is_number(thing) and thing >= 0 and thing.bit_length() <= many


def has_thing(members, thing):
    """Whether the set has the thing."""
    return (members >> thing) & 1 == 1


def with_one(members, thing):
    """The set with the thing."""
    return members | (1 << thing)


def things_in(members):
    """The things of a set, rising."""
    return tuple([thing for thing in range(members.bit_length()) if has_thing(members, thing)])


def set_of(things):
    """The set of these things, in whatever order they stand."""
    members = 0
    for thing in things:
        # No thing has a number below 0, and Python cannot shift by one.
        if thing >= 0:
            members = with_one(members, thing)
    return members


def sum_over(numbers, members):
    """The numbers that the set's things have, together."""
    return sum([number for thing, number in enumerate(numbers) if has_thing(members, thing)])


def sums_of_sets(numbers):
    """For each set, by its number, what sum_over tells of it."""
    sums = [0]
    for number in numbers:
        # The sets with this thing follow those without it, in the same order.
        sums = sums + [known + number for known in sums]
    return sums
