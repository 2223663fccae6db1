"""Webs: their pieces, their bridges, and how many rounds they let come out."""

from unnoted.checks import check_cells, check_web
from unnoted.errors import NotTree


def pieces(cells, web):
    """The list of the pieces of a web, each ascending, by their least cells."""
    check_cells(cells)
    check_web(cells, web)
    return pieces_of(cells, web)


def bridges(cells, web):
    """The list of the bridges of a web, ascending."""
    check_cells(cells)
    check_web(cells, web)
    # Any other exchange closes a ring with those before it, so it is no bridge.
    joining = joining_of(cells, web)
    return [one for one in joining if len(joining_of(cells, web_without(web, one))) < len(joining)]


def is_tree(cells, web):
    """Whether a web is a tree on all cells."""
    check_cells(cells)
    check_web(cells, web)
    return forms_tree(cells, web)


def round_bounds(cells, web):
    """The tuple of the least and the greatest number of rounds that the ends of a web can have."""
    check_cells(cells)
    check_web(cells, web)
    least = 0
    greatest = 0
    for piece in pieces_of(cells, web):
        inner = [exchange for exchange in web if exchange[0] in piece]
        low, high = piece_bounds(len(piece), len(inner))
        least += low
        greatest += high
    return least, greatest


def check_tree(cells, web):
    """Raise InvalidWeb if this is not a web on so many cells, and NotTree if it is not a tree."""
    check_web(cells, web)
    if not forms_tree(cells, web):
        raise NotTree("the web is not a tree on all cells")


def forms_tree(cells, web):
    """Whether a web that has been checked is a tree on all cells."""
    return len(web) == cells - 1 == len(joining_of(cells, web))


def pieces_of(cells, web):
    """The pieces of a web that has been checked."""
    names, _ = names_and_joining(cells, web)
    leasts = [cell for cell in range(1, cells + 1) if names[cell] == cell]
    return [[cell for cell in range(1, cells + 1) if names[cell] == least] for least in leasts]


def joining_of(cells, web):
    """The exchanges that join two pieces of the web of those before them."""
    _, joining = names_and_joining(cells, web)
    return joining


def names_and_joining(cells, web):
    """For each cell behind a 0 the least cell of its piece, and the exchanges that join two pieces of those before."""
    names = list(range(cells + 1))
    joining = []
    for first, second in web:
        if names[first] != names[second]:
            # The lesser name stays, so that a piece has the name of its least cell in the end.
            low = min(names[first], names[second])
            high = max(names[first], names[second])
            names = [low if name == high else name for name in names]
            joining.append((first, second))
    return names, joining


def web_without(web, exchange):
    """A new web that lacks an exchange."""
    return [kept for kept in web if kept != exchange]


def piece_bounds(many, exchanges):
    """The bounds of the number of rounds for a piece with so many cells and exchanges."""
    spare = exchanges - many
    least = 2 - spare % 2
    greatest = min(spare + 2, many)
    return least, greatest - (greatest - spare) % 2


def exchange_of(one, two):
    """The exchange of two cells, the lesser one first."""
    return min(one, two), max(one, two)
