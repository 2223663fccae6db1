"""The nights that tell all that nights can tell of a tree, by the orders at its cells."""

from unnoted.logs import orders_of
from unnoted.reach import row_between

LEAST_TO_TELL = 4


def telling_rows(cells, web):
    """As few outcomes of a tree that has been checked as tell all that nights can tell of it."""
    if cells < LEAST_TO_TELL:
        return []
    first = orders_of(cells, web)
    second = [second_order(near, is_even_away(cells, web, cell)) for cell, near in enumerate(first, 1)]
    found = [ends_by_orders(first), ends_by_orders(second)]
    # Two orders of three exchanges always leave two of them, or one and the cell itself, side by side in both.
    if 3 in [len(near) for near in first]:
        found.append(ends_by_orders([third_order(near) for near in first]))
    return found


def is_even_away(cells, web, cell):
    """Whether a cell of a tree is an even number of exchanges away from the cell 1."""
    return len(row_between(cells, web, 1, cell)) % 2 == 1


def second_order(near, is_even):
    """The order in the second night at a cell with these neighbours in the first one."""
    # Two exchanges are turned at just one of two neighbours, so that what is side by side at both falls apart.
    if len(near) == 1 or (len(near) == 2 and not is_even):
        return near
    if len(near) % 2 == 0:
        return near[1::2] + near[::2]
    return near[1::2] + [near[0], near[-1]] + near[2:-1:2]


def third_order(near):
    """The order in the third night at a cell with these neighbours in the first one."""
    return [near[0], near[2], near[1]] if len(near) == 3 else near


def ends_by_orders(orders):
    """The ends of the logs of a tree that have these orders at the cells."""
    return [end_by_orders(orders, cell) for cell in range(1, len(orders) + 1)]


def end_by_orders(orders, start):
    """The cell in which the thing from a cell ends."""
    cell = start
    waiting = orders[start - 1]
    while len(waiting) > 0:
        order = orders[waiting[0] - 1]
        # The thing leaves the next cell by the exchange behind the one by which it comes.
        behind = order.index(cell) + 1
        cell = waiting[0]
        waiting = order[behind:]
    return cell
