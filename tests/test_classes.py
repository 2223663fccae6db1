"""Point 22: classes of trees, held against all trees of up to seven cells."""

import time
import unittest
from functools import cache
from itertools import combinations
from math import comb, factorial

from unnoted.classes import classes, count_classes
from unnoted.errors import InvalidCells
from tests.reference import all_sides, all_trees, order_at, sides_by_reach, trees_by_codes
from tests.test_arguments import WRONG_CELLS, ArgumentsTest, lists_within


def is_class(cells, sides):
    """Whether some sides part the cells as the document says of a class, seen from the cell 1."""
    for one, two in combinations(sides, 2):
        if set(one) & set(two) and not set(one) <= set(two) and not set(two) <= set(one):
            return False
    for side in sides:
        inner = [other for other in sides if set(other) < set(side)]
        # At least one cell of the branch is a branch of its own.
        if all(any(cell in other for other in inner) for cell in side):
            return False
    return True


def trees_with_leaves(cells, leaves):
    """The number of trees on so many cells, named by different names, with so many leaves."""
    if cells <= 2:
        return 1 if leaves == cells else 0
    parts = sum((-1) ** at * comb(cells - leaves, at) * (cells - leaves - at) ** (cells - 2)
                for at in range(cells - leaves + 1))
    return comb(cells, leaves) * parts


@cache
def ways_to_fill(cells, ones, twos):
    """The number of ways to put cells into so many places for one or more and so many for two or more of them."""
    if ones + twos == 0:
        return 1 if cells == 0 else 0
    if ones:
        return sum(comb(cells, many) * ways_to_fill(cells - many, ones - 1, twos) for many in range(1, cells + 1))
    return sum(comb(cells, many) * ways_to_fill(cells - many, 0, twos - 1) for many in range(2, cells + 1))


def classes_by_bundles(cells):
    """The number of the ways to put three or more cells into bundles and to join these to a tree.

    A bundle that is joined to one other bundle has two cells or more, since its middle has a leaf.
    """
    found = 1
    for many in range(2, cells + 1):
        ways = sum(trees_with_leaves(many, leaves) * ways_to_fill(cells, many - leaves, leaves)
                   for leaves in range(2, many + 1) if 2 * leaves + many - leaves <= cells)
        found += ways // factorial(many)
    return found


class ClassesTest(ArgumentsTest):
    def test_few_cells(self):
        self.assertEqual((classes(1), classes(2), classes(3)), ([[]], [[]], [[]]))
        self.assertEqual(classes(4), [[], [(2, 3)], [(2, 4)], [(3, 4)]])
        self.assertEqual([count_classes(cells) for cells in (1, 2, 3, 4, 5, 6)], [1, 1, 1, 4, 26, 221])

    def test_the_splits_of_all_trees(self):
        for cells in range(1, 7):
            wanted = {tuple(sides_by_reach(cells, web)) for web in all_trees(cells)}
            self.assertEqual(classes(cells), [list(sides) for sides in sorted(wanted)])
            self.assertEqual(count_classes(cells), len(wanted))

    def test_the_words_of_the_document(self):
        for cells in range(3, 6):
            every = all_sides(cells)
            wanted = [sorted(sides) for many in range(len(every) + 1) for sides in combinations(every, many)
                      if is_class(cells, sides)]
            self.assertEqual(classes(cells), sorted(wanted))

    def test_all_trees_of_seven_cells(self):
        # In each class there is just one tree in which each middle is less than its leaves.
        found = 0
        for web in trees_by_codes(7):
            many = {cell: len(order_at(web, cell)) for cell in range(1, 8)}
            middles = [(one, two) if many[two] == 1 else (two, one) for one, two in web if 1 in (many[one], many[two])]
            found += all(middle < leaf for middle, leaf in middles)
        self.assertEqual(count_classes(7), found)

    def test_the_number_by_bundles(self):
        for cells in range(3, 17):
            self.assertEqual(count_classes(cells), classes_by_bundles(cells))

    def test_kinds_and_order(self):
        for cells in range(1, 7):
            found = classes(cells)
            self.assertIs(type(found), list)
            self.assertEqual(found, sorted(found))
            for sides in found:
                self.assertIs(type(sides), list)
                self.assertEqual(sides, sorted(sides))
                self.assertTrue(all(type(side) is tuple for side in sides))
        self.assertIs(type(count_classes(16)), int)

    def test_lists_are_new(self):
        for cells in range(1, 7):
            first = classes(cells)
            found = lists_within(first) + lists_within(classes(cells))
            self.assertEqual(len({id(one) for one in found}), len(found))
            kept = [list(sides) for sides in first]
            for one in lists_within(first):
                one.clear()
            self.assertEqual(classes(cells), kept)

    def test_wrong_numbers_of_cells(self):
        for call in (classes, count_classes):
            for cells in WRONG_CELLS:
                self.assertIs(self.raised(InvalidCells, call, cells).cells, cells)

    def test_classes_are_listed_up_to_six_cells(self):
        for cells in range(7, 17):
            self.assertEqual(self.raised(InvalidCells, classes, cells).cells, cells)
            self.assertGreater(count_classes(cells), 2000)

    def test_by_name(self):
        self.assertEqual((classes(cells=4), count_classes(cells=16)), (classes(4), count_classes(16)))

    def test_most_cells_end_within_seconds(self):
        begun = time.monotonic()
        count_classes(16)
        classes(6)
        self.assertLess(time.monotonic() - begun, 5)


if __name__ == "__main__":
    unittest.main()
