"""Rings of exchanges: what comes out of them is told by the cells whose exchange with the next one is made first."""

from unnoted.checks import check_cells, check_ends, is_cell
from unnoted.errors import InvalidAhead
from unnoted.logs import rounds_of

LEAST_OF_RINGS = 3


def ring_web(cells):
    """The web of a ring."""
    check_cells(cells, least=LEAST_OF_RINGS)
    return sorted([(1, cells)] + [(cell, cell + 1) for cell in range(1, cells)])


def ring_ends(cells, ahead):
    """The outcome in which just the cells ahead have their exchange with the next cell first."""
    check_cells(cells, least=LEAST_OF_RINGS)
    check_ahead(cells, ahead)
    return ring_row(cells, ahead)


def aheads(cells, ends):
    """The list of all lists of cells ahead that give an arrangement, ascending."""
    check_cells(cells, least=LEAST_OF_RINGS)
    check_ends(cells, ends)
    # The cells ahead are one round and all others are another one; the one with the least cell comes first.
    rows = [sorted(row) for row in rounds_of(ends)]
    return [row for row in rows if len(rows) == 2 and ring_row(cells, row) == ends]


def count_ring_ends(cells):
    """The number of outcomes of a ring."""
    check_cells(cells, least=LEAST_OF_RINGS)
    choices = (1 << cells) - 2
    # A choice and its rest give the same if both have at most two cells: there are three such pairs.
    return choices - 3 if cells <= 4 else choices


def check_ahead(cells, ahead):
    """Raise InvalidAhead if these are not cells of a ring, neither none nor all, ascending."""
    if not isinstance(ahead, list) or not 1 <= len(ahead) < cells:
        raise InvalidAhead(None)
    before = 0
    for index, thing in enumerate(ahead):
        if not is_cell(cells, thing) or thing <= before:
            raise InvalidAhead(index)
        before = thing


def ring_row(cells, ahead):
    """The ends that come of cells ahead that have been checked."""
    found = [0] * cells
    rest = [cell for cell in range(1, cells + 1) if cell not in ahead]
    for cell, end in zip(ahead, ahead[1:] + ahead[:1]):
        found[cell - 1] = end
    for cell, end in zip(rest, rest[-1:] + rest[:-1]):
        found[cell - 1] = end
    return found
