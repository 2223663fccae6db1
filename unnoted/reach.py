"""Where a thing can end in some log of a web, and such logs."""

from unnoted.checks import check_cell, check_cells, check_web
from unnoted.errors import NoLog
from unnoted.logs import orders_of
from unnoted.webs import exchange_of, web_without


def can_end(cells, web, cell, end):
    """Whether the thing from a cell ends in a cell in some log of a web."""
    check_question(cells, web, cell, end)
    return len(row_ending(cells, web, cell, end)) > 0


def log_ending(cells, web, cell, end):
    """A log of a web in which the thing from a cell ends in a cell."""
    check_question(cells, web, cell, end)
    row = row_ending(cells, web, cell, end)
    if len(row) == 0:
        raise NoLog("in no log of the web the thing ends there")
    return log_along(web, row)


def check_question(cells, web, cell, end):
    """Check what both functions are passed."""
    check_cells(cells)
    check_web(cells, web)
    check_cell(cells, cell)
    check_cell(cells, end)


def row_ending(cells, web, cell, end):
    """Cells by which the thing from a cell can go to its end, both included; none if it cannot end there.

    They are different, but for a row from a cell back to it, which is a ring or the cell alone.
    """
    if cell != end:
        return row_between(cells, web, cell, end)
    near = orders_of(cells, web)[cell - 1]
    if len(near) == 0:
        return [cell]
    for other in near:
        back = row_between(cells, web_without(web, exchange_of(cell, other)), other, cell)
        if len(back) > 0:
            return [cell] + back
    return []


def row_between(cells, web, start, end):
    """Different cells from a cell to another one, each with an exchange with the next one; none if there are none."""
    near = orders_of(cells, web)
    # The search begins at the end, so that it tells for each cell the next one on the way there.
    following = {end: end}
    waiting = [end]
    while len(waiting) > 0:
        cell = waiting.pop()
        for other in near[cell - 1]:
            if other not in following:
                following[other] = cell
                waiting.append(other)
    if start not in following:
        return []
    row = [start]
    while row[-1] != end:
        row.append(following[row[-1]])
    return row


def log_along(web, row):
    """A log of a web in which the thing from the first cell of a row goes along the row and stays at its last cell."""
    gone = [exchange_of(one, two) for one, two in zip(row, row[1:])]
    rest = [exchange for exchange in web if exchange not in gone]
    # The thing must leave its cell by the first step, so all else there waits for that one; all else elsewhere
    # is over before. Then nothing at another cell comes between two steps, nor behind the last one.
    others = [exchange for exchange in rest if row[0] not in exchange]
    waiting = [exchange for exchange in rest if row[0] in exchange]
    return others + gone[:1] + waiting + gone[1:]
