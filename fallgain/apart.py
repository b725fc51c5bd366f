"""Full rows taken apart into mixtures of orders."""

from fallgain.below import check_below, is_full, raised, slacks
from fallgain.errors import NotFull
from fallgain.fractions import lowest_terms
from fallgain.orders import order_row
from fallgain.rows import row_of, shared_divisor
from fallgain.sets import sums_of_sets, things_in


def check_full(house, row):
    """Refuse a row that passes a set, then one that is not full."""
    check_below(house, row)
    if not is_full(house, row):
        raise NotFull()


def order_along(left):
    """An order along a chain of tight sets, as many as can be; left has each set's slack."""
    order = []
    ahead = 0
    # Each set has a greater number than the sets within it, so that no tight set
    # which would fit between two of the chain is gone past.
    for members, slack in enumerate(left):
        if slack == 0 and members & ahead == ahead:
            order.extend(things_in(members ^ ahead))
            ahead = members
    return tuple(order)


def moves_from(prices, row):
    """How far the row is from these prices, thing by thing, times its bottom."""
    numbers, bottom = row
    return [number - price * bottom for number, price in zip(numbers, prices)]


def times_to_go(left, moves):
    """How often the moves can be made until a first slack is used up, a fraction."""
    best = None
    for slack, move in zip(left, sums_of_sets(moves)):
        if move > 0 and (best is None or slack * best[1] < best[0] * move):
            best = (slack, move)
    return lowest_terms(best[0], best[1])


def row_beyond(row, moves, top, bottom):
    """The row that the moves, made top over bottom times, lead to."""
    numbers = [number * bottom + move * top for number, move in zip(row[0], moves)]
    return row_of(numbers, row[1] * bottom)


def mixture_of(counts, orders):
    """The mixture of these orders, its counts without a common divisor."""
    divisor = shared_divisor(counts, 0)
    return tuple([(count // divisor, order) for count, order in zip(counts, orders)])


def taken_apart(house, row):
    """A mixture whose row is just this full row, of no more pairs than things."""
    check_full(house, row)
    counts, orders = [], []
    rest = 1
    while True:
        left = slacks(house, row)
        order = order_along(left)
        orders.append(order)
        moves = moves_from(order_row(house, order), row)
        # By the order's row all tight sets are tight, too, so that beyond the row there
        # are more of them each time, until they leave no other row than the order's.
        if moves == [0] * house[0]:
            return mixture_of(counts + [rest], orders)
        top, bottom = times_to_go(left, moves)
        # The row parts into top shares of the order's row and bottom shares of the row beyond.
        counts = [count * (top + bottom) for count in counts] + [rest * top]
        rest = rest * bottom
        row = row_beyond(row, moves, top, bottom)


def mixture_above(house, prices):
    """A mixture by whose row no thing costs less than by these whole prices, which are below the house."""
    return taken_apart(house, raised(house, (prices, 1), tuple(range(house[0]))))
