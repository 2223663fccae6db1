"""Logs: what comes out when the exchanges of a web are made in an order, or in any order."""

from unnoted.checks import check_cells, check_log, check_web
from unnoted.errors import InvalidNumber

MOST_OF_KINDS = 10
MOST_OF_ENDS = 6


def ends(cells, log):
    """The list of the cells in which the things from all cells lie in the end."""
    check_cells(cells)
    check_log(cells, log)
    return ends_of(cells, log)


def ways(cells, log):
    """A list with, for each thing, the list of the cells in which it lies, its own first."""
    check_cells(cells)
    check_log(cells, log)
    return ways_of(cells, log)


def orders(cells, log):
    """A list with, for each cell, the cells with which it has an exchange, in the order of the log."""
    check_cells(cells)
    check_log(cells, log)
    return orders_of(cells, log)


def faces(cells, log):
    """The list of the faces of a log, in the order of the least cells of their rounds."""
    check_cells(cells)
    check_log(cells, log)
    gone = ways_of(cells, log)
    found = []
    for row in rounds_of(ends_of(cells, log)):
        face = [half for cell in row for half in half_ways(gone[cell - 1])]
        # A cell without exchanges is a round, but in no face.
        if len(face) > 0:
            found.append(face)
    return found


def met(cells, log):
    """The list of the pairs of things that change places, in the order of the log."""
    check_cells(cells)
    check_log(cells, log)
    held = list(range(cells + 1))
    found = []
    for first, second in log:
        one, two = held[first], held[second]
        found.append((min(one, two), max(one, two)))
        held[first], held[second] = two, one
    return found


def turns(cells, log):
    """The list of the turns of the exchanges, in the order of the log."""
    check_cells(cells)
    check_log(cells, log)
    # Turns grow at each cell, so the last one there is the greatest.
    last = [0] * (cells + 1)
    found = []
    for first, second in log:
        turn = 1 + max(last[first], last[second])
        last[first] = last[second] = turn
        found.append(turn)
    return found


def are_one_kind(cells, log, other):
    """Whether two logs have the same orders at all cells."""
    check_cells(cells)
    check_log(cells, log)
    check_log(cells, other)
    return orders_of(cells, log) == orders_of(cells, other)


def count_kinds(cells, web):
    """The number of kinds of logs of a web of at most 10 exchanges."""
    check_cells(cells)
    check_web(cells, web)
    check_most(web, MOST_OF_KINDS)
    # The bits of a number tell which exchanges a smaller web, or a set of exchanges, has.
    apart = apart_sets(touching_bits(web))
    signs = [-1]
    counts = [1]
    for bits in range(1, 1 << len(web)):
        signs.append(-signs[bits & (bits - 1)])
        counts.append(sum([signs[part] * counts[bits ^ part] for part in apart[bits][1:]]))
    return counts[-1]


def count_of_kind(cells, log):
    """The number of logs of the kind of a log of at most 10 exchanges."""
    check_cells(cells)
    check_log(cells, log)
    check_most(log, MOST_OF_KINDS)
    touching = touching_bits(log)
    behind = [(touching[at] >> at) << at for at in range(len(log))]
    # The bits of a number tell which exchanges are left.
    counts = [1]
    for bits in range(1, 1 << len(log)):
        lasts = [at for at in bit_places(bits) if (bits & behind[at]) == 0]
        counts.append(sum([counts[bits ^ (1 << at)] for at in lasts]))
    return counts[-1]


def all_ends(cells, web):
    """The list of all outcomes of a web of at most 6 exchanges, each once, ascending."""
    check_cells(cells)
    check_web(cells, web)
    check_most(web, MOST_OF_ENDS)
    # The bits of a number tell which exchanges a smaller web has.
    outcomes = [[tuple(range(1, cells + 1))]]
    for bits in range(1, 1 << len(web)):
        found = {}
        for at in bit_places(bits):
            for row in outcomes[bits ^ (1 << at)]:
                found[made_first(row, web[at])] = True
        outcomes.append(list(found))
    return [list(row) for row in sorted(outcomes[-1])]


def ways_of(cells, log):
    """The ways of the things in a log that has been checked."""
    found = [[cell] for cell in range(1, cells + 1)]
    held = list(range(cells + 1))
    for first, second in log:
        one, two = held[first], held[second]
        found[one - 1].append(second)
        found[two - 1].append(first)
        held[first], held[second] = two, one
    return found


def ends_of(cells, log):
    """The ends of a log that has been checked."""
    return [way[-1] for way in ways_of(cells, log)]


def orders_of(cells, log):
    """The orders at all cells in a log that has been checked."""
    found = [[] for _ in range(cells)]
    for first, second in log:
        found[first - 1].append(second)
        found[second - 1].append(first)
    return found


def rounds_of(row):
    """The rounds of an arrangement, each from its least cell on, in the order of these cells."""
    seen = set()
    found = []
    for least in range(1, len(row) + 1):
        if least not in seen:
            cells = []
            cell = least
            while cell not in seen:
                seen.add(cell)
                cells.append(cell)
                cell = row[cell - 1]
            found.append(cells)
    return found


def half_ways(way):
    """The half ways of a thing, one after the other."""
    return list(zip(way, way[1:]))


def check_most(exchanges, most):
    """Raise InvalidNumber if there are more exchanges than can be gone through."""
    if len(exchanges) > most:
        raise InvalidNumber(len(exchanges))


def touching_bits(exchanges):
    """For each exchange the bits of those that have a cell in common with it, but not its own."""
    found = []
    for first, second in exchanges:
        bits = 0
        for at, one in enumerate(exchanges):
            if (first in one) != (second in one):
                bits |= 1 << at
        found.append(bits)
    return found


def apart_sets(touching):
    """For the bits of each set of exchanges those of all sets in it of which no two touch, the empty one first."""
    found = [[0]]
    for bits in range(1, 1 << len(touching)):
        top = bits.bit_length() - 1
        rest = bits ^ (1 << top)
        found.append(found[rest] + [part | (1 << top) for part in found[rest & ~touching[top]]])
    return found


def bit_places(bits):
    """The list of the places of the bits of a number, ascending."""
    return [at for at in range(bits.bit_length()) if (bits >> at) & 1 == 1]


def made_first(row, exchange):
    """The ends that come of some ends, as a tuple, if one more exchange is made first."""
    first, second = exchange
    found = list(row)
    found[first - 1], found[second - 1] = row[second - 1], row[first - 1]
    return tuple(found)
