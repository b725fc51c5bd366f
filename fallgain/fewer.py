"""A thing granted or left out, whatever the worths come to; things behind it have numbers less by one."""

from fallgain.sets import has_thing


def granting(house, thing):
    """Each set of the other things has its worth with the thing, less that of the thing alone."""
    many, worths = house
    alone = worths[1 << thing]
    # The sets keep their order when the thing goes, so that they stand by their new numbers.
    return (many - 1, tuple([worth - alone for members, worth in enumerate(worths) if has_thing(members, thing)]))


def leaving_out(house, thing):
    """Each set of the other things has the worth that it has."""
    many, worths = house
    return (many - 1, tuple([worth for members, worth in enumerate(worths) if not has_thing(members, thing)]))
