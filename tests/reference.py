"""What the document says of webs and logs, worked out straight from its words and in another way than the program."""

from itertools import combinations, permutations, product


def all_exchanges(cells):
    """All exchanges of so many cells, ascending."""
    return list(combinations(range(1, cells + 1), 2))


def all_webs(cells):
    """All webs on so many cells."""
    exchanges = all_exchanges(cells)
    return [list(web) for many in range(len(exchanges) + 1) for web in combinations(exchanges, many)]


def all_logs(web):
    """All logs of a web."""
    return [list(log) for log in permutations(web)]


def all_trees(cells):
    """All trees on so many cells."""
    return [list(web) for web in combinations(all_exchanges(cells), cells - 1) if len(reached(cells, web, 1)) == cells]


def some_tree(cells, number):
    """A tree on so many cells without a plain pattern; another one for another number, mostly."""
    names = sorted(range(1, cells + 1), key=lambda cell: (cell * (number * 2 + 3) + number // 3) % 17)
    joined = [(names[at], names[(at * at * number + 3 * at + number // 2) % at]) for at in range(1, cells)]
    return sorted((min(pair), max(pair)) for pair in joined)


# Some webs beside those of all_webs: trees, rings, several pieces, lonely cells, bridges between rings.
MORE_WEBS = [
    (1, []),
    (2, [(1, 2)]),
    (5, []),
    (5, [(1, 4), (2, 4), (3, 4), (3, 5)]),
    (5, [(1, 2), (1, 3), (1, 4), (1, 5)]),
    (5, [(1, 3), (1, 5), (2, 4), (3, 5)]),
    (5, [(1, 2), (1, 5), (2, 3), (3, 4), (4, 5)]),
    (5, [(1, 5), (2, 3), (2, 4), (3, 4), (4, 5)]),
    (5, [(1, 2), (1, 3), (2, 3), (3, 4), (3, 5)]),
    (6, [(1, 6), (2, 5), (3, 4)]),
    (6, [(1, 2), (2, 3), (3, 4), (4, 5), (5, 6)]),
    (6, [(1, 2), (2, 6), (3, 4), (3, 5), (4, 5)]),
    (6, [(1, 4), (1, 6), (2, 3), (3, 5), (4, 6)]),
    (16, [(1, 16), (2, 15), (2, 16), (8, 9)]),
]


def small_webs():
    """Tuples of a number of cells and a web on them."""
    return [(cells, web) for cells in (1, 2, 3, 4) for web in all_webs(cells)] + MORE_WEBS


def small_logs():
    """Tuples of a number of cells and a log, for all logs of all small webs."""
    return [(cells, log) for cells, web in small_webs() for log in all_logs(web)]


def partner(exchange, cell):
    """The other cell of an exchange, or None if it does not have the cell."""
    if cell not in exchange:
        return None
    return exchange[1] if exchange[0] == cell else exchange[0]


def way_of(log, thing):
    """The way of one thing, followed through the log on its own; exchanges may occur in it twice."""
    way = [thing]
    for exchange in log:
        if way[-1] in exchange:
            way.append(partner(exchange, way[-1]))
    return way


def ends_by_walking(cells, log):
    """The ends of a log, each thing followed on its own."""
    return [way_of(log, thing)[-1] for thing in range(1, cells + 1)]


def order_at(log, cell):
    """The order at one cell."""
    return [partner(exchange, cell) for exchange in log if cell in exchange]


def orders_by_cell(cells, log):
    """The orders at all cells, each looked up on its own."""
    return [order_at(log, cell) for cell in range(1, cells + 1)]


def reached(cells, web, start):
    """The set of the cells that are joined to a cell, perhaps over others."""
    found = {start}
    for _ in range(cells):
        found |= {partner(exchange, cell) for exchange in web for cell in found if cell in exchange}
    return found


def pieces_by_reach(cells, web):
    """The pieces of a web as sets, by their least cells."""
    parts = [reached(cells, web, cell) for cell in range(1, cells + 1)]
    return [part for at, part in enumerate(parts) if min(part) == at + 1]


def without(web, exchange):
    """A web or a log that lacks an exchange."""
    return [kept for kept in web if kept != exchange]


def bridges_by_reach(cells, web):
    """The exchanges whose cells are not joined without them."""
    return [one for one in web if one[1] not in reached(cells, without(web, one), one[0])]


def has_ring(web):
    """Whether there is a row of three or more different cells, each with an exchange with the next one, closed."""
    joined = set(web) | {(second, first) for first, second in web}
    cells = {cell for exchange in web for cell in exchange}
    for many in range(3, len(cells) + 1):
        for row in permutations(cells, many):
            if all((row[at - 1], row[at]) in joined for at in range(many)):
                return True
    return False


def rounds_by_steps(row):
    """The rounds of an arrangement as lists that begin with their least cells, in the order of these."""
    found = []
    for cell in range(1, len(row) + 1):
        cells = [cell]
        while row[cells[-1] - 1] != cell:
            cells.append(row[cells[-1] - 1])
        if min(cells) == cell:
            found.append(cells)
    return found


def following(cells, log):
    """A dict with, for each half way, the one that follows it."""
    found = {}
    for cell in range(1, cells + 1):
        order = order_at(log, cell)
        for at, other in enumerate(order):
            found[(other, cell)] = (cell, order[(at + 1) % len(order)])
    return found


def is_stretch(row, wished):
    """Whether a set of cells is a stretch of a round, given as a row of cells."""
    turned = [row[at:] + row[:at] for at in range(len(row))]
    return any(set(one[:len(wished)]) == set(wished) for one in turned)


def kind_by_swaps(log):
    """The set of all logs that come from a log by changing neighbours without a cell in common, as tuples."""
    found = {tuple(log)}
    waiting = [tuple(log)]
    while waiting:
        one = waiting.pop()
        for at in range(len(one) - 1):
            if not set(one[at]) & set(one[at + 1]):
                other = one[:at] + (one[at + 1], one[at]) + one[at + 2:]
                if other not in found:
                    found.add(other)
                    waiting.append(other)
    return found


def kinds_by_parts(web):
    """The number of kinds of a web, by the ways to part it into sets of exchanges without a common cell.

    The kinds are the ways to direct the graph of touching exchanges without a closed row. By a theorem of Stanley
    these are, but for the sign, its chromatic polynomial at -1: the sum over all such partings into k sets of
    (-1) ** k * k!.
    """
    def total(left, parts, worth):
        if not left:
            return worth
        first, rest = left[0], left[1:]
        found = total(rest, parts + [[first]], -worth * (len(parts) + 1))
        for at, part in enumerate(parts):
            if all(not set(first) & set(other) for other in part):
                found += total(rest, parts[:at] + [part + [first]] + parts[at + 1:], worth)
        return found

    return abs(total(web, [], 1))


def outcomes(cells, web):
    """The set of all outcomes of a web, as tuples."""
    return {tuple(ends_by_walking(cells, log)) for log in permutations(web)}


def rounds_of_all(cells):
    """All arrangements that are one round of all cells, as tuples of their ends."""
    found = []
    for rest in permutations(range(2, cells + 1)):
        row = (1,) + rest
        following_cell = {row[at - 1]: row[at] for at in range(cells)}
        found.append(tuple(following_cell[cell] for cell in range(1, cells + 1)))
    return found


def pairs_of_sides(cells, web):
    """For each inner exchange of a tree the tuple of the two sets of cells into which the tree falls apart."""
    many = {cell: len(order_at(web, cell)) for cell in range(1, cells + 1)}
    return [tuple(frozenset(reached(cells, without(web, one), cell)) for cell in one)
            for one in web if many[one[0]] > 1 and many[one[1]] > 1]


def splits_by_reach(cells, web):
    """The set of the splits of a tree, each a set of its two sides."""
    return {frozenset(pair) for pair in pairs_of_sides(cells, web)}


def split_of_side(cells, side):
    """The split with a side, as a set of its two sides."""
    return frozenset([frozenset(side), frozenset(range(1, cells + 1)) - frozenset(side)])


def all_sides(cells):
    """One side of each possible split of so many cells: the one without the cell 1."""
    return [side for many in range(2, cells - 1) for side in combinations(range(2, cells + 1), many)]


def do_cross(one, two):
    """Whether two splits, sets of their sides, cross."""
    return all(side & other for side in one for other in two)


def first_crossing(split_list):
    """The tuple of the indexes of the first two splits that cross, or None."""
    found = [pair for pair in combinations(range(len(split_list)), 2)
             if do_cross(split_list[pair[0]], split_list[pair[1]])]
    return min(found, default=None)


def ways_to_part(cells, split_list):
    """All ways to take one side of each of some splits so that each cell is in just one: dicts of indexes and sides."""
    found = []

    def go_on(chosen):
        left = [cell for cell in range(1, cells + 1) if not any(cell in side for side in chosen.values())]
        if not left:
            found.append(chosen)
            return
        for index, split in enumerate(split_list):
            for side in split:
                if index not in chosen and left[0] in side and side <= set(left):
                    go_on({**chosen, index: side})

    go_on({})
    return found


def lists_round_nothing(cells, split_list):
    """The lists of the indexes of the splits that stand round a bundle without a cell, ascending."""
    found = []
    for chosen in ways_to_part(cells, split_list):
        others = [split for index, split in enumerate(split_list) if index not in chosen]
        if len(chosen) >= 3 and all(any(side <= one for side in other for one in chosen.values()) for other in others):
            found.append(sorted(chosen))
    return sorted(found)


class Numbers:
    """Numbers without a plain pattern, the same ones in every run."""

    def __init__(self, first):
        self.state = first * 7919 + 13

    def below(self, limit):
        """A number from 0 to less than a limit."""
        self.state = (self.state * 6364136223846793005 + 1442695040888963407) % 2 ** 64
        return (self.state >> 33) % limit

    def mixed(self, things):
        """A new list of some things in another order."""
        left, found = list(things), []
        while left:
            found.append(left.pop(self.below(len(left))))
        return found

    def night(self, cells):
        """An arrangement that is one round of all cells."""
        return ends_of_round(self.mixed(range(1, cells + 1)))


def ends_of_round(gone):
    """The arrangement with a round of all cells."""
    behind = {cell: gone[(at + 1) % len(gone)] for at, cell in enumerate(gone)}
    return [behind[cell] for cell in sorted(gone)]


def trees_by_codes(cells):
    """All trees on two or more cells, each by the row of the neighbours of its least leaves, which are cut off."""
    found = []
    for code in product(range(1, cells + 1), repeat=cells - 2):
        many = [1 + code.count(cell) for cell in range(1, cells + 1)]
        pairs = []
        for cell in code:
            leaf = many.index(1) + 1
            pairs.append((min(leaf, cell), max(leaf, cell)))
            many[leaf - 1] -= 1
            many[cell - 1] -= 1
        pairs.append(tuple(cell for cell in range(1, cells + 1) if many[cell - 1] == 1))
        found.append(sorted(pairs))
    return sorted(found)


def sides_by_reach(cells, web):
    """The sides of the splits of a tree that lack the cell 1, as ascending tuples, ascending."""
    return sorted(tuple(sorted(side)) for pair in pairs_of_sides(cells, web) for side in pair if 1 not in side)


def common_stretches(cells, nights):
    """The sides without the cell 1 that are stretches in all nights, as ascending tuples, ascending."""
    found = []
    for ends in nights:
        gone = rounds_by_steps(ends)[0]
        found.append({frozenset((gone + gone)[at:at + many]) for at in range(cells) for many in range(2, cells - 1)})
    common = found[0].intersection(*found[1:])
    return sorted(tuple(sorted(side)) for side in common if 1 not in side)


def do_cross_on(gone, one, two):
    """Whether two exchanges cross, drawn in a circle with the cells in the order of a round."""
    low, high = sorted(gone.index(cell) for cell in one)
    inside = [low < gone.index(cell) < high for cell in two]
    return not set(one) & set(two) and inside[0] != inside[1]


def is_drawn(web, ends):
    """Whether a tree can be drawn without crossings in a circle with the cells in the order of a night."""
    gone = rounds_by_steps(ends)[0]
    return not any(do_cross_on(gone, one, two) for one, two in combinations(web, 2))


def is_so(web, told):
    """Whether what is told of a tree, like an entry of `known`, is so."""
    if told[0] == "busy":
        return len(order_at(web, told[1])) > 1
    return (told[1:] in web) == (told[0] == "has")


def pairs_that_meet(log):
    """The pairs of things that change places in a log, ascending."""
    found = []
    for at, exchange in enumerate(log):
        before = log[:at]
        cells = sorted({cell for one in log for cell in one})
        found.append(tuple(thing for thing in cells if way_of(before, thing)[-1] in exchange))
    return sorted(found)


def fits_night(cells, web, ends):
    """Whether an arrangement is one round of all cells in which all sides of a tree are stretches."""
    rounds = rounds_by_steps(ends)
    return len(rounds) == 1 and all(is_stretch(rounds[0], side) for pair in pairs_of_sides(cells, web) for side in pair)
