"""What the document says of webs and logs, worked out straight from its words and in another way than the program."""

from itertools import combinations, permutations


def all_exchanges(cells):
    """All exchanges of so many cells, ascending."""
    return list(combinations(range(1, cells + 1), 2))


def all_webs(cells):
    """All webs on so many cells."""
    exchanges = all_exchanges(cells)
    return [list(web) for many in range(len(exchanges) + 1) for web in combinations(exchanges, many)]


def all_logs(web):
    """All logs of a web."""
    return [list(log) for log in permutations(web)]


def all_trees(cells):
    """All trees on so many cells."""
    return [list(web) for web in combinations(all_exchanges(cells), cells - 1) if len(reached(cells, web, 1)) == cells]


def some_tree(cells, number):
    """A tree on so many cells without a plain pattern; another one for another number, mostly."""
    names = sorted(range(1, cells + 1), key=lambda cell: (cell * (number * 2 + 3) + number // 3) % 17)
    joined = [(names[at], names[(at * at * number + 3 * at + number // 2) % at]) for at in range(1, cells)]
    return sorted((min(pair), max(pair)) for pair in joined)


# Some webs beside those of all_webs: trees, rings, several pieces, lonely cells, bridges between rings.
MORE_WEBS = [
    (1, []),
    (2, [(1, 2)]),
    (5, []),
    (5, [(1, 4), (2, 4), (3, 4), (3, 5)]),
    (5, [(1, 2), (1, 3), (1, 4), (1, 5)]),
    (5, [(1, 3), (1, 5), (2, 4), (3, 5)]),
    (5, [(1, 2), (1, 5), (2, 3), (3, 4), (4, 5)]),
    (5, [(1, 5), (2, 3), (2, 4), (3, 4), (4, 5)]),
    (5, [(1, 2), (1, 3), (2, 3), (3, 4), (3, 5)]),
    (6, [(1, 6), (2, 5), (3, 4)]),
    (6, [(1, 2), (2, 3), (3, 4), (4, 5), (5, 6)]),
    (6, [(1, 2), (2, 6), (3, 4), (3, 5), (4, 5)]),
    (6, [(1, 4), (1, 6), (2, 3), (3, 5), (4, 6)]),
    (16, [(1, 16), (2, 15), (2, 16), (8, 9)]),
]


def small_webs():
    """Tuples of a number of cells and a web on them."""
    return [(cells, web) for cells in (1, 2, 3, 4) for web in all_webs(cells)] + MORE_WEBS


def small_logs():
    """Tuples of a number of cells and a log, for all logs of all small webs."""
    return [(cells, log) for cells, web in small_webs() for log in all_logs(web)]


def partner(exchange, cell):
    """The other cell of an exchange, or None if it does not have the cell."""
    if cell not in exchange:
        return None
    return exchange[1] if exchange[0] == cell else exchange[0]


def way_of(log, thing):
    """The way of one thing, followed through the log on its own; exchanges may occur in it twice."""
    way = [thing]
    for exchange in log:
        if way[-1] in exchange:
            way.append(partner(exchange, way[-1]))
    return way


def ends_by_walking(cells, log):
    """The ends of a log, each thing followed on its own."""
    return [way_of(log, thing)[-1] for thing in range(1, cells + 1)]


def order_at(log, cell):
    """The order at one cell."""
    return [partner(exchange, cell) for exchange in log if cell in exchange]


def orders_by_cell(cells, log):
    """The orders at all cells, each looked up on its own."""
    return [order_at(log, cell) for cell in range(1, cells + 1)]


def reached(cells, web, start):
    """The set of the cells that are joined to a cell, perhaps over others."""
    found = {start}
    for _ in range(cells):
        found |= {partner(exchange, cell) for exchange in web for cell in found if cell in exchange}
    return found


def pieces_by_reach(cells, web):
    """The pieces of a web as sets, by their least cells."""
    parts = [reached(cells, web, cell) for cell in range(1, cells + 1)]
    return [part for at, part in enumerate(parts) if min(part) == at + 1]


def without(web, exchange):
    """A web or a log that lacks an exchange."""
    return [kept for kept in web if kept != exchange]


def bridges_by_reach(cells, web):
    """The exchanges whose cells are not joined without them."""
    return [one for one in web if one[1] not in reached(cells, without(web, one), one[0])]


def has_ring(web):
    """Whether there is a row of three or more different cells, each with an exchange with the next one, closed."""
    joined = set(web) | {(second, first) for first, second in web}
    cells = {cell for exchange in web for cell in exchange}
    for many in range(3, len(cells) + 1):
        for row in permutations(cells, many):
            if all((row[at - 1], row[at]) in joined for at in range(many)):
                return True
    return False


def rounds_by_steps(row):
    """The rounds of an arrangement as lists that begin with their least cells, in the order of these."""
    found = []
    for cell in range(1, len(row) + 1):
        cells = [cell]
        while row[cells[-1] - 1] != cell:
            cells.append(row[cells[-1] - 1])
        if min(cells) == cell:
            found.append(cells)
    return found


def following(cells, log):
    """A dict with, for each half way, the one that follows it."""
    found = {}
    for cell in range(1, cells + 1):
        order = order_at(log, cell)
        for at, other in enumerate(order):
            found[(other, cell)] = (cell, order[(at + 1) % len(order)])
    return found


def is_stretch(row, wished):
    """Whether a set of cells is a stretch of a round, given as a row of cells."""
    turned = [row[at:] + row[:at] for at in range(len(row))]
    return any(set(one[:len(wished)]) == set(wished) for one in turned)


def kind_by_swaps(log):
    """The set of all logs that come from a log by changing neighbours without a cell in common, as tuples."""
    found = {tuple(log)}
    waiting = [tuple(log)]
    while waiting:
        one = waiting.pop()
        for at in range(len(one) - 1):
            if not set(one[at]) & set(one[at + 1]):
                other = one[:at] + (one[at + 1], one[at]) + one[at + 2:]
                if other not in found:
                    found.add(other)
                    waiting.append(other)
    return found


def kinds_by_parts(web):
    """The number of kinds of a web, by the ways to part it into sets of exchanges without a common cell.

    The kinds are the ways to direct the graph of touching exchanges without a closed row. By a theorem of Stanley
    these are, but for the sign, its chromatic polynomial at -1: the sum over all such partings into k sets of
    (-1) ** k * k!.
    """
    def total(left, parts, worth):
        if not left:
            return worth
        first, rest = left[0], left[1:]
        found = total(rest, parts + [[first]], -worth * (len(parts) + 1))
        for at, part in enumerate(parts):
            if all(not set(first) & set(other) for other in part):
                found += total(rest, parts[:at] + [part + [first]] + parts[at + 1:], worth)
        return found

    return abs(total(web, [], 1))


def outcomes(cells, web):
    """The set of all outcomes of a web, as tuples."""
    return {tuple(ends_by_walking(cells, log)) for log in permutations(web)}


def rounds_of_all(cells):
    """All arrangements that are one round of all cells, as tuples of their ends."""
    found = []
    for rest in permutations(range(2, cells + 1)):
        row = (1,) + rest
        following_cell = {row[at - 1]: row[at] for at in range(cells)}
        found.append(tuple(following_cell[cell] for cell in range(1, cells + 1)))
    return found


def pairs_of_sides(cells, web):
    """For each inner exchange of a tree the tuple of the two sets of cells into which the tree falls apart."""
    many = {cell: len(order_at(web, cell)) for cell in range(1, cells + 1)}
    return [tuple(frozenset(reached(cells, without(web, one), cell)) for cell in one)
            for one in web if many[one[0]] > 1 and many[one[1]] > 1]


def splits_by_reach(cells, web):
    """The set of the splits of a tree, each a set of its two sides."""
    return {frozenset(pair) for pair in pairs_of_sides(cells, web)}


def split_of_side(cells, side):
    """The split with a side, as a set of its two sides."""
    return frozenset([frozenset(side), frozenset(range(1, cells + 1)) - frozenset(side)])


def all_sides(cells):
    """One side of each possible split of so many cells: the one without the cell 1."""
    return [side for many in range(2, cells - 1) for side in combinations(range(2, cells + 1), many)]


def do_cross(one, two):
    """Whether two splits, sets of their sides, cross."""
    return all(side & other for side in one for other in two)


def first_crossing(split_list):
    """The tuple of the indexes of the first two splits that cross, or None."""
    found = [pair for pair in combinations(range(len(split_list)), 2)
             if do_cross(split_list[pair[0]], split_list[pair[1]])]
    return min(found, default=None)


def ways_to_part(cells, split_list):
    """All ways to take one side of each of some splits so that each cell is in just one: dicts of indexes and sides."""
    found = []

    def go_on(chosen):
        left = [cell for cell in range(1, cells + 1) if not any(cell in side for side in chosen.values())]
        if not left:
            found.append(chosen)
            return
        for index, split in enumerate(split_list):
            for side in split:
                if index not in chosen and left[0] in side and side <= set(left):
                    go_on({**chosen, index: side})

    go_on({})
    return found


def lists_round_nothing(cells, split_list):
    """The lists of the indexes of the splits that stand round a bundle without a cell, ascending."""
    found = []
    for chosen in ways_to_part(cells, split_list):
        others = [split for index, split in enumerate(split_list) if index not in chosen]
        if len(chosen) >= 3 and all(any(side <= one for side in other for one in chosen.values()) for other in others):
            found.append(sorted(chosen))
    return sorted(found)
