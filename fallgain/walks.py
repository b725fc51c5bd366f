"""Walks from a full row to another one, told."""

from fallgain.apart import check_full
from fallgain.below import slacks
from fallgain.fractions import common_multiple, lowest_terms
from fallgain.rooms import least_between, slacks_behind
from fallgain.walkpaper import lacks_over, numbers_over


def exchange_amount(left, lacks, one, other):
    """How much can be exchanged, and is wanted by both things; 0 where one of them wants none."""
    if lacks[one] <= 0 or lacks[other] >= 0:
        return 0
    return min(least_between(left, one, other), lacks[one], -lacks[other])


def walk(house, row, other):
    """A walk from the row to the other one, of no more exchanges than there are pairs of things."""
    check_full(house, row)
    check_full(house, other)
    bottom = common_multiple([row[1], other[1]])
    left = slacks(house, (numbers_over(row, bottom), bottom))
    lacks = lacks_over(row, other, bottom)
    exchanges = []
    for grows in range(house[0]):
        # A tight set that stops one of these exchanges is still tight behind the next ones, so
        # that each thing is asked but once; all of them in common would leave no room for a lack.
        for falls in range(house[0]):
            amount = exchange_amount(left, lacks, grows, falls)
            if amount > 0:
                exchanges.append((grows, falls, lowest_terms(amount, bottom)))
                left = slacks_behind(left, grows, falls, amount)
                lacks[grows] -= amount
                lacks[falls] += amount
    return tuple(exchanges)
