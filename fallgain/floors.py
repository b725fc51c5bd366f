"""Floors: tuples (many, worths) that are houses with each sign turned."""

from fallgain.errors import Crossing
from fallgain.houses import check_house, is_formed


def signs_turned(floor):
    """The same worths, each with the opposite sign."""
    many, worths = floor
    return (many, tuple([-worth for worth in worths]))


def is_floor(thing):
    """Whether this is a floor."""
    # What a worth may be is the same with either sign.
    if not is_formed(thing):
        return False
    try:
        return check_house(signs_turned(thing))
    except Crossing:
        return False
