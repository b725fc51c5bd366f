"""Fractions: tuples (top, bottom) in lowest terms, bottom from 1 on."""

from fallgain.kinds import are_numbers


def common_divisor(one, other):
    """The greatest number that divides both; 0 only where both are 0."""
    one, other = abs(one), abs(other)
    while other > 0:
        one, other = other, one % other
    return one


def common_multiple(numbers):
    """The least number that each of these, all from 1 on, divides."""
    multiple = 1
    for number in numbers:
        multiple = multiple // common_divisor(multiple, number) * number
    return multiple


def is_fraction(thing):
    """Whether this is a fraction."""
    return are_numbers(thing, 2) and thing[1] >= 1 and common_divisor(thing[0], thing[1]) == 1


def lowest_terms(top, bottom):
    """The fraction top over bottom; bottom is not 0."""
    divisor = common_divisor(top, bottom)
    if bottom < 0:
        divisor = -divisor
    return (top // divisor, bottom // divisor)


def plus(one, other):
    """The sum of two fractions."""
    return lowest_terms(one[0] * other[1] + other[0] * one[1], one[1] * other[1])


def times(one, other):
    """The product of two fractions."""
    return lowest_terms(one[0] * other[0], one[1] * other[1])


def is_less(one, other):
    """Whether the one fraction is less than the other."""
    return one[0] * other[1] < other[0] * one[1]
