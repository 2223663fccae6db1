"""Classes: the trees with the same outcomes are one, told by the splits that they share."""

from math import comb

from unnoted.checks import check_cells

MOST_OF_CLASSES = 6


def count_classes(cells):
    """The number of classes of trees."""
    check_cells(cells)
    if cells <= 2:
        return 1
    return bare_counts(cells - 1)[-1]


def classes(cells):
    """The list of the lists of splits of all classes of trees on at most 6 cells, ascending."""
    check_cells(cells, most=MOST_OF_CLASSES)
    if cells <= 2:
        return [[]]
    others = list(range(2, cells + 1))
    return sorted([sorted(sides) for parts in partings(others) if len(parts) > 1 for sides in sides_of_parts(parts)])


def bare_counts(most):
    """For 0 to `most` cells the numbers of ways to part them into branches of which none is a single cell.

    They count classes, too: two or more cells can be one branch in as many ways as they can be parted with a single
    cell. So of all ways to part them, but for those that give one branch, as many are left as those without one.
    """
    bare = [1]
    branches = [0]
    for many in range(1, most + 1):
        # A branch of two or more cells is some single cells, and all its others parted without single ones.
        branches.append(sum([comb(many, single) * bare[many - single] for single in range(1, many + 1)]))
        # The first cell is in a branch of so many cells, and all cells outside of it are parted without single ones.
        joined = [comb(many - 1, size - 1) * branches[size] * bare[many - size] for size in range(2, many + 1)]
        bare.append(sum(joined))
    return bare


def partings(cells):
    """All ways to part some cells into branches, each a list of tuples of cells."""
    if len(cells) == 0:
        return [[]]
    found = []
    for bits in range(1 << (len(cells) - 1)):
        branch = [cell for at, cell in enumerate(cells[1:]) if (bits >> at) & 1 == 1]
        rest = [cell for cell in cells[1:] if cell not in branch]
        found.extend([[(cells[0], *branch)] + parts for parts in partings(rest)])
    return found


def sides_of_parts(parts):
    """The lists of the sides by which each of some branches can be told."""
    found = [[]]
    for branch in parts:
        found = [sides + more for sides in found for more in sides_of_branch(branch)]
    return found


def sides_of_branch(branch):
    """The lists of the sides by which one branch can be told; none tells a single cell."""
    if len(branch) == 1:
        return [[]]
    inner = [parts for parts in partings(branch) if min([len(part) for part in parts]) == 1]
    return [[branch] + sides for parts in inner for sides in sides_of_parts(parts)]
