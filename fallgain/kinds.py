"""Which values are numbers, and tuples of numbers."""


def is_number(thing):
    """True and False are ints to Python, but no numbers here."""
    return isinstance(thing, int) and not isinstance(thing, bool)


def is_between(thing, low, high):
    """Whether this is a number from low to high."""
    return is_number(thing) and low <= thing <= high


def is_tuple_of(thing, length):
    """Whether this is a tuple with so many parts."""
    return isinstance(thing, tuple) and len(thing) == length


def are_numbers(thing, length):
    """Whether this is a tuple of so many numbers."""
    return is_tuple_of(thing, length) and all([is_number(part) for part in thing])


def are_between(thing, length, low, high):
    """Whether this is a tuple of so many numbers from low to high."""
    return is_tuple_of(thing, length) and all([is_between(part, low, high) for part in thing])
