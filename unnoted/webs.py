"""Webs: their pieces, their bridges, and how many rounds they let come out."""

from unnoted.checks import check_cells, check_web


def pieces(cells, web):
    """The list of the pieces of a web, each ascending, by their least cells."""
    check_cells(cells)
    check_web(cells, web)
    return pieces_of(cells, web)


def bridges(cells, web):
    """The list of the bridges of a web, ascending."""
    check_cells(cells)
    check_web(cells, web)
    many = len(pieces_of(cells, web))
    return [exchange for exchange in web if len(pieces_of(cells, web_without(web, exchange))) > many]


def is_tree(cells, web):
    """Whether a web is a tree on all cells."""
    check_cells(cells)
    check_web(cells, web)
    return len(web) == cells - 1 and len(pieces_of(cells, web)) == 1


def round_bounds(cells, web):
    """The tuple of the least and the greatest number of rounds that the ends of a web can have."""
    check_cells(cells)
    check_web(cells, web)
    least = 0
    greatest = 0
    for piece in pieces_of(cells, web):
        inner = [exchange for exchange in web if exchange[0] in piece]
        low, high = piece_bounds(len(piece), len(inner))
        least += low
        greatest += high
    return least, greatest


def pieces_of(cells, web):
    """The pieces of a web that has been checked."""
    names = list(range(cells + 1))
    for first, second in web:
        # The lesser name stays, so that a piece has the name of its least cell in the end.
        low = min(names[first], names[second])
        high = max(names[first], names[second])
        names = [low if name == high else name for name in names]
    leasts = [cell for cell in range(1, cells + 1) if names[cell] == cell]
    return [[cell for cell in range(1, cells + 1) if names[cell] == least] for least in leasts]


def web_without(web, exchange):
    """A new web that lacks an exchange."""
    return [kept for kept in web if kept != exchange]


def piece_bounds(many, exchanges):
    """The bounds of the number of rounds for a piece with so many cells and exchanges."""
    spare = exchanges - many
    least = 2 - spare % 2
    greatest = min(spare + 2, many)
    return least, greatest - (greatest - spare) % 2
