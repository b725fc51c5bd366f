"""Papers for steps: pairs (steps, mixture)."""

from fallgain.fractions import common_multiple, is_fraction, is_less
from fallgain.kinds import are_numbers, is_tuple_of
from fallgain.mixtures import is_mixture, mixture_row
from fallgain.rows import row_of
from fallgain.sets import is_set, sum_over, things_in


def is_step(many, thing):
    """Whether this is a tuple (top, bottom, set), whatever the other steps are."""
    if not are_numbers(thing, 3):
        return False
    return is_fraction(thing[:2]) and is_set(many, thing[2])


def grows(ahead, members):
    """Whether the set has all things of the set ahead, and others."""
    return members & ahead == ahead and members != ahead


def follows(before, step):
    """Whether the step's fraction is greater than that of the step before, and its set grows."""
    return is_less(before[:2], step[:2]) and grows(before[2], step[2])


def are_steps(many, thing):
    """Whether these are steps for so many things, whatever the worths are."""
    if not isinstance(thing, tuple) or len(thing) == 0:
        return False
    if not all([is_step(many, step) for step in thing]):
        return False
    rising = all([follows(before, step) for before, step in zip(thing, thing[1:])])
    return rising and grows(0, thing[0][2]) and thing[-1][2] == (1 << many) - 1


def steps_with_ahead(steps):
    """For each step a pair of the set ahead, at first that of no things, and the step."""
    ahead = [0] + [members for top, bottom, members in steps]
    return list(zip(ahead, steps))


def is_just(house, weights, ahead, step):
    """Whether what the step adds to the worth is its fraction times the weights of the new things."""
    top, bottom, members = step
    more = house[1][members] - house[1][ahead]
    return more * bottom == top * sum_over(weights, members ^ ahead)


def steps_row(weights, steps):
    """The row in which each thing costs its weight times the fraction of the first step that has it."""
    shared = common_multiple([bottom for top, bottom, members in steps])
    numbers = [0] * len(weights)
    for ahead, (top, bottom, members) in steps_with_ahead(steps):
        for thing in things_in(members ^ ahead):
            numbers[thing] = weights[thing] * top * (shared // bottom)
    return row_of(numbers, shared)


def right_steps(house, weights, thing):
    """Whether this is a paper for the steps of the house by these weights."""
    if not is_tuple_of(thing, 2):
        return False
    steps, mixture = thing
    if not are_steps(house[0], steps) or not is_mixture(house[0], mixture):
        return False
    if not all([is_just(house, weights, ahead, step) for ahead, step in steps_with_ahead(steps)]):
        return False
    return mixture_row(house, mixture) == steps_row(weights, steps)
