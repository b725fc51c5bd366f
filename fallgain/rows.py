"""Rows of prices: tuples (numbers, bottom) in lowest terms, bottom from 1 on."""

from fallgain.fractions import common_divisor, lowest_terms
from fallgain.kinds import are_numbers, is_number, is_tuple_of
from fallgain.sets import sum_over


def shared_divisor(numbers, bottom):
    """The greatest number that divides bottom and all numbers."""
    divisor = bottom
    for number in numbers:
        divisor = common_divisor(divisor, number)
    return divisor


def is_row(many, thing):
    """Whether this is a row for so many things."""
    if not is_tuple_of(thing, 2) or not are_numbers(thing[0], many):
        return False
    numbers, bottom = thing
    return is_number(bottom) and bottom >= 1 and shared_divisor(numbers, bottom) == 1


def row_of(numbers, bottom):
    """The row with the prices numbers over bottom; bottom is from 1 on."""
    divisor = shared_divisor(numbers, bottom)
    return (tuple([number // divisor for number in numbers]), bottom // divisor)


def price_of(row, members):
    """The price of a set."""
    numbers, bottom = row
    return lowest_terms(sum_over(numbers, members), bottom)
