"""Pieces: tuples of a word and parts, that give a worth to each set."""

from fallgain.kinds import are_between, is_between, is_tuple_of
from fallgain.sets import has_thing, is_set, is_thing, sum_over, things_in

GREATEST_WEIGHT = 10 ** 9
GREATEST_PRICE = 10 ** 9
GREATEST_MARK = 1023


def is_weight(thing):
    """Whether this is a weight."""
    return is_between(thing, 0, GREATEST_WEIGHT)


def are_parts(many, thing):
    """Whether this is a set with one thing or more."""
    return is_set(many, thing) and thing != 0


def are_prices(thing, length):
    """Whether this is a tuple of so many prices."""
    return are_between(thing, length, -GREATEST_PRICE, GREATEST_PRICE)


def never_rise(numbers):
    """Whether no number is greater than the one ahead."""
    return all([numbers[at] <= numbers[at - 1] for at in range(1, len(numbers))])


def is_sum(many, thing):
    """Whether this is a piece, where its word is "sum"."""
    return is_tuple_of(thing, 2) and are_prices(thing[1], many)


def is_weighted_set(many, thing):
    """Whether this is a piece, where its word is "meet" or "whole"."""
    return is_tuple_of(thing, 3) and is_weight(thing[1]) and are_parts(many, thing[2])


def is_cut(many, thing):
    """Whether this is a piece, where its word is "cut"."""
    if not is_tuple_of(thing, 4) or not is_weight(thing[1]):
        return False
    return is_thing(many, thing[2]) and is_thing(many, thing[3]) and thing[2] != thing[3]


def is_bent(many, thing):
    """Whether this is a piece, where its word is "bent"."""
    if not is_tuple_of(thing, 3) or not are_parts(many, thing[1]):
        return False
    return are_prices(thing[2], len(things_in(thing[1]))) and never_rise(thing[2])


def is_rank(many, thing):
    """Whether this is a piece, where its word is "rank"."""
    return is_tuple_of(thing, 3) and is_weight(thing[1]) and are_between(thing[2], many, 0, GREATEST_MARK)


CHECKS = {
    "sum": is_sum,
    "meet": is_weighted_set,
    "whole": is_weighted_set,
    "cut": is_cut,
    "bent": is_bent,
    "rank": is_rank,
}


def is_piece(many, thing):
    """Whether this is a piece for so many things."""
    if not isinstance(thing, tuple) or len(thing) == 0:
        return False
    word = thing[0]
    # Lists and dicts cannot be looked up in a dict, so texts alone are.
    if not isinstance(word, str) or word not in CHECKS:
        return False
    check = CHECKS[word]
    return check(many, thing)


def rank_of(marks):
    """The greatest number of these marks that are free of each other."""
    basis = []
    for mark in marks:
        left = mark
        # Each of the basis lacks the top bits of those ahead of it, so one pass
        # takes all these bits away, and leaves 0 just where the mark is not free.
        for free in basis:
            left = min(left, left ^ free)
        if left != 0:
            basis.append(left)
    return len(basis)


def sum_worth(piece, members):
    """The prices of the set's things together."""
    return sum_over(piece[1], members)


def meet_worth(piece, members):
    """The weight, if the set has a thing of the parts."""
    return piece[1] if members & piece[2] != 0 else 0


def whole_worth(piece, members):
    """Less than 0 by the weight, if the set has all of the parts."""
    return -piece[1] if members & piece[2] == piece[2] else 0


def cut_worth(piece, members):
    """The weight, if the set has the one thing and not the other."""
    return piece[1] if has_thing(members, piece[2]) and not has_thing(members, piece[3]) else 0


def bent_worth(piece, members):
    """As many of the first gains as the set has things of the parts."""
    return sum(piece[2][:len(things_in(members & piece[1]))])


def rank_worth(piece, members):
    """The weight times the rank of the marks of the set's things."""
    return piece[1] * rank_of([mark for thing, mark in enumerate(piece[2]) if has_thing(members, thing)])


WORTHS = {
    "sum": sum_worth,
    "meet": meet_worth,
    "whole": whole_worth,
    "cut": cut_worth,
    "bent": bent_worth,
    "rank": rank_worth,
}


def worth_of(many, piece, members):
    """The worth that a piece for so many things gives to a set."""
    tell = WORTHS[piece[0]]
    return tell(piece, members)
