"""Splits and bundles of trees: which trees have the same outcomes, and the tree with wished splits."""

from unnoted.checks import check_cells, is_cell
from unnoted.errors import Crossing, InvalidSides, NoMiddle
from unnoted.logs import bit_places, orders_of
from unnoted.webs import check_tree, exchange_of, pieces_of, web_without


def splits(cells, web):
    """The list of the splits of a tree, each by its side without the cell 1, ascending."""
    check_cells(cells)
    check_tree(cells, web)
    return splits_of(cells, web)


def bundles(cells, web):
    """The list of the bundles of a tree, tuples of a middle and its leaves, by their middles."""
    check_cells(cells)
    check_tree(cells, web)
    return bundles_of(cells, web)


def are_alike(cells, web, other):
    """Whether two trees have the same outcomes."""
    check_cells(cells)
    check_tree(cells, web)
    check_tree(cells, other)
    return splits_of(cells, web) == splits_of(cells, other)


def is_within(cells, web, other):
    """Whether all outcomes of a tree are outcomes of another one."""
    check_cells(cells)
    check_tree(cells, web)
    check_tree(cells, other)
    told = splits_of(cells, web)
    return all([side in told for side in splits_of(cells, other)])


def count_alike(cells, web):
    """The number of trees with the same outcomes as a tree, itself included."""
    check_cells(cells)
    check_tree(cells, web)
    count = 1
    for _, leaves in bundles_of(cells, web):
        count = count * (len(leaves) + 1)
    return count


def alike_webs(cells, web):
    """The list of all trees with the same outcomes as a tree, itself included, ascending."""
    check_cells(cells)
    check_tree(cells, web)
    found = [list(web)]
    for middle, leaves in bundles_of(cells, web):
        found = [web_swapped(one, middle, cell) for one in found for cell in [middle] + leaves]
    return sorted(found)


def web_with(cells, sides):
    """The tree whose splits are the wished ones, with the least cell of each bundle for its middle."""
    check_cells(cells)
    check_sides(cells, sides)
    parts = [part_of(cells, side) for side in sides]
    check_crossing(parts)
    whole = all_bits(cells)
    around = [part_around(part, parts, whole) for part in parts]
    check_middles(parts, around)
    rows = {part: own_cells(part, parts, around) for part in [whole] + parts}
    found = [exchange_of(rows[outer][0], rows[part][0]) for part, outer in zip(parts, around)]
    for row in rows.values():
        found.extend([(row[0], cell) for cell in row[1:]])
    return sorted(found)


def splits_of(cells, web):
    """The splits of a tree that has been checked."""
    found = []
    for exchange in web:
        # The piece with the cell 1 comes first.
        rest, side = pieces_of(cells, web_without(web, exchange))
        if len(rest) > 1 and len(side) > 1:
            found.append(tuple(side))
    return sorted(found)


def bundles_of(cells, web):
    """The bundles of a tree that has been checked."""
    near = orders_of(cells, web)
    middles = [cell for cell in range(1, cells + 1) if len(near[cell - 1]) > 1]
    return [(middle, [cell for cell in near[middle - 1] if len(near[cell - 1]) == 1]) for middle in middles]


def web_swapped(web, one, two):
    """A web with two cells named by one another."""
    names = {one: two, two: one}
    return sorted([exchange_of(names.get(first, first), names.get(second, second)) for first, second in web])


def is_side(cells, thing):
    """Whether a thing is a side of a split of so many cells."""
    if not isinstance(thing, (list, tuple)) or not 2 <= len(thing) <= cells - 2:
        return False
    before = 0
    for cell in thing:
        if not is_cell(cells, cell) or cell <= before:
            return False
        before = cell
    return True


def check_sides(cells, sides):
    """Raise InvalidSides if these are not sides of different splits of so many cells."""
    if not isinstance(sides, list):
        raise InvalidSides(None)
    seen = set()
    for index, side in enumerate(sides):
        # A split has one part, whichever of its sides tells it.
        if not is_side(cells, side) or part_of(cells, side) in seen:
            raise InvalidSides(index)
        seen.add(part_of(cells, side))


def all_bits(cells):
    """The bits of all of so many cells; the bit of a cell has its number for its place."""
    return (2 << cells) - 2


def part_of(cells, side):
    """The part of a split: the bits of its side without the cell 1."""
    bits = sum([1 << cell for cell in side])
    return all_bits(cells) ^ bits if side[0] == 1 else bits


def check_crossing(parts):
    """Raise Crossing with the indexes of the first two parts whose splits cross."""
    for first, part in enumerate(parts):
        for second in range(first + 1, len(parts)):
            # The cell 1 is outside of both, so they cross unless they lie apart or one of them in the other one.
            if (part & parts[second]) not in (0, part, parts[second]):
                raise Crossing(first, second)


def part_around(part, parts, whole):
    """The least of the other parts in which a part lies, or all cells if it lies in none."""
    # Of two parts that do not cross the one that lies in the other one is the lesser number.
    return min([other for other in parts if other != part and (other & part) == part], default=whole)


def own_cells(part, parts, around):
    """The cells of a part that are in no lesser part, ascending; they are a bundle."""
    return bit_places(part - sum([inner for inner, outer in zip(parts, around) if outer == part]))


def check_middles(parts, around):
    """Raise NoMiddle with the least list of indexes of the splits that stand round a bundle without a cell."""
    empty = []
    for index, part in enumerate(parts):
        if len(own_cells(part, parts, around)) == 0:
            empty.append(sorted([index] + [at for at, outer in enumerate(around) if outer == part]))
    if len(empty) > 0:
        raise NoMiddle(min(empty))
