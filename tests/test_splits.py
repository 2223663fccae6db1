"""Points 18 to 21: splits, bundles and wished splits, held against all logs of all trees of up to five cells."""

import time
import unittest
from itertools import combinations, permutations

from unnoted.arrangements import Arrangement
from unnoted.errors import Crossing, NoMiddle
from unnoted.logs import all_ends, orders
from unnoted.splits import alike_webs, are_alike, bundles, count_alike, is_within, splits, web_with
from tests.reference import (all_logs, all_sides, all_trees, first_crossing, is_stretch, lists_round_nothing, order_at,
                             outcomes, pairs_of_sides, reached, rounds_by_steps, rounds_of_all, some_tree,
                             split_of_side, splits_by_reach, without)

TREES = [(cells, web) for cells in range(1, 6) for web in all_trees(cells)]
OUTCOMES = [(cells, web, outcomes(cells, web)) for cells, web in TREES]
GREAT = [(16, some_tree(16, number)) for number in range(50)]
PATH = [(cell, cell + 1) for cell in range(1, 16)]
STAR = [(cell, 6) for cell in range(1, 6)] + [(6, cell) for cell in range(7, 17)]


def without_one(pair):
    """The side without the cell 1, of two sides, as a tuple of ascending cells."""
    return tuple(sorted([side for side in pair if 1 not in side][0]))


def bundle_cells(cells, web):
    """The bundles as tuples of a middle and the set of its leaves."""
    many = {cell: len(order_at(web, cell)) for cell in range(1, cells + 1)}
    return [(cell, {leaf for leaf in order_at(web, cell) if many[leaf] == 1})
            for cell in range(1, cells + 1) if many[cell] > 1]


def alike_by_joining(cells, web):
    """All trees that come from a tree when each bundle gets a middle, joined anew as the document says."""
    found = [{}]
    for middle, leaves in bundle_cells(cells, web):
        found = [{**chosen, middle: cell} for chosen in found for cell in leaves | {middle}]
    if cells < 3:
        return [web]
    webs = []
    for chosen in found:
        pairs = []
        for middle, leaves in bundle_cells(cells, web):
            new = chosen[middle]
            pairs += [(new, cell) for cell in leaves | {middle} if cell != new]
            pairs += [(new, chosen[other]) for other in order_at(web, middle) if other in chosen and other > middle]
        webs.append(sorted((min(pair), max(pair)) for pair in pairs))
    return sorted(webs)


class SplitsTest(unittest.TestCase):
    """Point 18."""

    def test_edges(self):
        self.assertEqual((splits(1, []), splits(2, [(1, 2)]), splits(3, [(1, 3), (2, 3)])), ([], [], []))
        self.assertEqual(splits(16, STAR), [])
        self.assertEqual(splits(16, PATH), [tuple(range(first, 17)) for first in range(3, 16)])
        self.assertEqual(splits(4, [(1, 2), (2, 3), (3, 4)]), [(3, 4)])
        self.assertEqual(splits(6, [(1, 4), (2, 3), (3, 4), (4, 5), (5, 6)]), [(2, 3), (5, 6)])

    def test_sides_of_inner_exchanges(self):
        for cells, web in TREES + GREAT:
            found = splits(cells, web)
            self.assertIs(type(found), list)
            self.assertTrue(all(type(side) is tuple for side in found))
            self.assertEqual(found, sorted(without_one(pair) for pair in pairs_of_sides(cells, web)))

    def test_each_side_has_two_cells_or_more(self):
        for cells, web in TREES + GREAT:
            for side in splits(cells, web):
                self.assertTrue(2 <= len(side) <= cells - 2)

    def test_outcomes_are_the_rounds_with_sides_as_stretches(self):
        for cells, web, rows in OUTCOMES:
            pairs = [split_of_side(cells, side) for side in splits(cells, web)]
            for row in rounds_of_all(cells):
                gone = rounds_by_steps(row)[0]
                fits = all(is_stretch(gone, side) for pair in pairs for side in pair)
                self.assertIs(fits, row in rows)
            self.assertEqual([list(row) for row in sorted(rows)], all_ends(cells, web))
            self.assertLessEqual(rows, set(rounds_of_all(cells)))

    def test_from_a_cell_on_the_round_takes_its_exchanges_in_their_order(self):
        for cells, web in TREES:
            for log in all_logs(web):
                gone = Arrangement.after(cells, log).rounds[0]
                for cell, order in enumerate(orders(cells, log), 1):
                    at = gone.index(cell)
                    rest = gone[at + 1:] + gone[:at]
                    for other in order:
                        exchange = (min(cell, other), max(cell, other))
                        behind = reached(cells, without(web, exchange), other)
                        self.assertEqual(set(rest[:len(behind)]), behind)
                        rest = rest[len(behind):]
                    self.assertEqual(rest, [])


class AlikeTest(unittest.TestCase):
    """Point 19."""

    def test_same_outcomes_and_outcomes_within(self):
        for cells, web, rows in OUTCOMES:
            for others, other, other_rows in OUTCOMES:
                if cells == others:
                    self.assertIs(are_alike(cells, web, other), rows == other_rows)
                    self.assertIs(is_within(cells, web, other), rows <= other_rows)

    def test_same_splits_and_splits_within(self):
        told = [(cells, web, splits_by_reach(cells, web)) for cells, web in TREES]
        for cells, web, one in told:
            for others, other, two in told:
                if cells == others:
                    self.assertIs(are_alike(cells, web, other), one == two)
                    self.assertIs(is_within(cells, web, other), two <= one)

    def test_otherwise_an_outcome_in_which_a_side_is_no_stretch(self):
        told = {}
        for cells, web, rows in OUTCOMES:
            gone = [rounds_by_steps(row)[0] for row in rows]
            stretched = {side: all(is_stretch(row, side) for row in gone) for side in all_sides(cells)}
            told[(cells, tuple(web))] = {side for side, always in stretched.items() if always}
        for cells, web in TREES:
            for others, other in TREES:
                if cells == others and not is_within(cells, web, other):
                    self.assertFalse(set(splits(cells, other)) <= told[(cells, tuple(web))])

    def test_great_trees(self):
        told = [(cells, web, splits_by_reach(cells, web)) for cells, web in GREAT]
        for cells, web, one in told:
            for _, other, two in told:
                self.assertIs(are_alike(cells, web, other), one == two)
                self.assertIs(is_within(cells, web, other), two <= one)
            self.assertIs(is_within(cells, web, STAR), True)

    def test_other_middles_of_great_trees(self):
        for cells, web in GREAT:
            for middle, leaves in bundle_cells(cells, web):
                for leaf in leaves:
                    names = {middle: leaf, leaf: middle}
                    pairs = [(names.get(one, one), names.get(two, two)) for one, two in web]
                    other = sorted((min(pair), max(pair)) for pair in pairs)
                    self.assertNotEqual(other, web)
                    self.assertIs(are_alike(cells, web, other), True)
                    self.assertIs(is_within(cells, other, web), True)
            if splits(cells, web):
                self.assertIs(are_alike(cells, web, STAR), False)
                self.assertIs(is_within(cells, STAR, web), False)


class BundlesTest(unittest.TestCase):
    """Point 20."""

    def test_edges(self):
        self.assertEqual((bundles(1, []), bundles(2, [(1, 2)])), ([], []))
        self.assertEqual(bundles(3, [(1, 3), (2, 3)]), [(3, [1, 2])])
        self.assertEqual(bundles(16, STAR), [(6, [1, 2, 3, 4, 5] + list(range(7, 17)))])
        self.assertEqual(bundles(16, PATH),
                         [(2, [1])] + [(cell, []) for cell in range(3, 15)] + [(15, [16])])

    def test_middles_and_leaves(self):
        for cells, web in TREES + GREAT:
            found = bundles(cells, web)
            self.assertEqual(found, [(middle, sorted(leaves)) for middle, leaves in bundle_cells(cells, web)])
            self.assertTrue(all(type(pair) is tuple and type(pair[1]) is list for pair in found))

    def test_each_cell_is_in_one_bundle(self):
        for cells, web in TREES + GREAT:
            there = sorted(cell for middle, leaves in bundles(cells, web) for cell in [middle] + leaves)
            self.assertEqual(there, list(range(1, cells + 1)) if cells > 2 else [])

    def test_alike_webs_have_the_same_outcomes(self):
        for cells, web, rows in OUTCOMES:
            wanted = [other for others, other, other_rows in OUTCOMES if others == cells and other_rows == rows]
            self.assertEqual(alike_webs(cells, web), sorted(wanted))
            self.assertEqual(count_alike(cells, web), len(wanted))

    def test_alike_webs_of_trees_of_six_cells(self):
        by_splits = {}
        for web in all_trees(6):
            by_splits.setdefault(frozenset(splits_by_reach(6, web)), []).append(web)
        self.assertEqual(len(by_splits), 221)
        for webs in by_splits.values():
            for web in webs:
                self.assertEqual(alike_webs(6, web), sorted(webs))
                self.assertEqual(count_alike(6, web), len(webs))

    def test_alike_webs_of_great_trees(self):
        for cells, web in GREAT + [(16, STAR), (16, PATH)]:
            begun = time.monotonic()
            found = alike_webs(cells, web)
            self.assertEqual(count_alike(cells, web), len(found))
            self.assertLess(time.monotonic() - begun, 5)
            self.assertEqual(found, alike_by_joining(cells, web))
            self.assertEqual(len({tuple(one) for one in found}), len(found))
            self.assertIn(web, found)

    def test_numbers(self):
        self.assertEqual((count_alike(1, []), count_alike(2, [(1, 2)]), count_alike(3, [(1, 2), (2, 3)])), (1, 1, 3))
        self.assertEqual((count_alike(16, STAR), count_alike(16, PATH)), (16, 4))
        # Four bundles of three cells and one of four are the most that 16 cells can give.
        wide = [(1, 2), (1, 3), (1, 4), (4, 5), (4, 6), (4, 7), (7, 8), (7, 9), (7, 10), (10, 11), (10, 12), (10, 13),
                (13, 14), (13, 15), (13, 16)]
        self.assertEqual(bundles(16, wide), [(1, [2, 3]), (4, [5, 6]), (7, [8, 9]), (10, [11, 12]), (13, [14, 15, 16])])
        self.assertEqual((count_alike(16, wide), len(alike_webs(16, wide))), (324, 324))

    def test_one_and_two_cells(self):
        self.assertEqual((alike_webs(1, []), alike_webs(2, [(1, 2)])), ([[]], [[(1, 2)]]))


class WishedTest(unittest.TestCase):
    """Point 21."""

    def raised(self, kind, cells, sides):
        with self.assertRaises(kind) as caught:
            web_with(cells, sides)
        return caught.exception

    def check_wish(self, cells, sides):
        """Hold web_with against the words for some wished sides."""
        wished = [split_of_side(cells, side) for side in sides]
        crossing = first_crossing(wished)
        if crossing is not None:
            error = self.raised(Crossing, cells, sides)
            self.assertEqual((error.first, error.second), crossing)
            return "crossing"
        empty = lists_round_nothing(cells, wished)
        if empty:
            self.assertEqual(self.raised(NoMiddle, cells, sides).indexes, empty[0])
            return "no middle"
        web = web_with(cells, sides)
        self.assertEqual(web, sorted(web))
        self.assertEqual(len(reached(cells, web, 1)), cells)
        self.assertEqual(len(web), cells - 1)
        self.assertEqual(splits_by_reach(cells, web), set(wished))
        for middle, leaves in bundle_cells(cells, web):
            self.assertTrue(all(middle < leaf for leaf in leaves))
        return "tree"

    def test_no_wished_side(self):
        self.assertEqual(web_with(1, []), [])
        self.assertEqual(web_with(2, []), [(1, 2)])
        for cells in range(3, 17):
            self.assertEqual(web_with(cells, []), [(1, cell) for cell in range(2, cells + 1)])

    def test_the_splits_of_each_tree(self):
        for cells, web in TREES + GREAT + [(16, STAR), (16, PATH)]:
            for sides in (splits(cells, web), splits(cells, web)[::-1]):
                found = web_with(cells, sides)
                self.assertIn(found, alike_by_joining(cells, web))
                self.assertEqual(self.check_wish(cells, sides), "tree")

    def test_each_side_and_both_kinds_tell_a_split(self):
        for cells, web in TREES + GREAT:
            sides = splits(cells, web)
            others = [[cell for cell in range(1, cells + 1) if cell not in side] for side in sides]
            mixed = [side if at % 2 else other for at, (side, other) in enumerate(zip(sides, others))]
            for told in (others, mixed, [list(side) for side in sides], [tuple(side) for side in others]):
                self.assertEqual(web_with(cells, told), web_with(cells, sides))

    def test_all_wishes_of_up_to_five_cells(self):
        for cells in range(1, 6):
            classes = {frozenset(splits_by_reach(cells, web)) for web in all_trees(cells)}
            every = all_sides(cells)
            for many in range(len(every) + 1):
                for sides in combinations(every, many):
                    wished = frozenset(split_of_side(cells, side) for side in sides)
                    self.assertEqual(self.check_wish(cells, list(sides)) == "tree", wished in classes)

    def test_wishes_of_six_cells(self):
        classes = {frozenset(splits_by_reach(6, web)) for web in all_trees(6)}
        told = []
        for many in range(4):
            for sides in combinations(all_sides(6), many):
                wished = frozenset(split_of_side(6, side) for side in sides)
                told.append(self.check_wish(6, list(sides)))
                self.assertEqual(told[-1] == "tree", wished in classes)
        self.assertEqual(told.count("tree"), 221)
        # Six cells can be put into three pairs in 15 ways.
        self.assertEqual(told.count("no middle"), 15)

    def test_the_first_two_that_cross(self):
        error = self.raised(Crossing, 5, [(2, 3), (2, 4), (3, 4)])
        self.assertEqual((error.first, error.second), (0, 1))
        error = self.raised(Crossing, 6, [(2, 3), (5, 6), (4, 5), (3, 4), (3, 4, 5, 6)])
        self.assertEqual((error.first, error.second), (0, 3))
        error = self.raised(Crossing, 6, [(2, 3), (2, 3, 4), (5, 6), (4, 5), (2, 3, 6)])
        self.assertEqual((error.first, error.second), (1, 3))
        error = self.raised(Crossing, 6, [(5, 6), (2, 3, 4), (1, 2, 3), (2, 4, 5), (3, 4)])
        self.assertEqual((error.first, error.second), (0, 3))
        error = self.raised(Crossing, 4, [[1, 2], (1, 3)])
        self.assertEqual((error.first, error.second), (0, 1))

    def test_crossing_comes_ahead_of_no_middle(self):
        error = self.raised(Crossing, 7, [(1, 2), (3, 4), (5, 6), (5, 7)])
        self.assertEqual((error.first, error.second), (2, 3))

    def test_a_bundle_without_a_cell(self):
        for row in permutations([(1, 2), (3, 4), (5, 6)]):
            self.assertEqual(self.raised(NoMiddle, 6, list(row)).indexes, [0, 1, 2])
        self.assertEqual(self.raised(NoMiddle, 7, [(1, 2), (3, 4), (3, 4, 7), (5, 6)]).indexes, [0, 2, 3])
        self.assertEqual(self.raised(NoMiddle, 8, [(7, 8), (3, 4), (1, 2), (5, 6)]).indexes, [0, 1, 2, 3])
        self.assertEqual(self.check_wish(7, [(1, 2), (3, 4), (5, 6)]), "tree")
        self.assertIs(type(self.raised(NoMiddle, 6, [(1, 2), (3, 4), (5, 6)]).indexes), list)

    def test_the_least_of_several_lists(self):
        first, second = [(1, 2), (3, 4), (1, 2, 3, 4)], [(5, 6), (7, 8)]
        self.assertEqual(self.raised(NoMiddle, 8, first + second).indexes, [0, 1, 2])
        self.assertEqual(self.raised(NoMiddle, 8, second + first).indexes, [0, 1, 4])
        self.assertEqual(self.raised(NoMiddle, 8, [(1, 2, 3, 4), (5, 6), (1, 2), (3, 4), (7, 8)]).indexes, [0, 1, 4])
        self.assertEqual(self.raised(NoMiddle, 8, [(5, 6), (1, 2), (1, 2, 3, 4), (3, 4), (7, 8)]).indexes, [0, 2, 4])
        for row in permutations(first + second):
            self.assertEqual(self.check_wish(8, list(row)), "no middle")

    def test_wishes_of_many_cells(self):
        told = []
        for number in range(60):
            # The sides of a tree of 24 cells, cut down to 9 to 16 of its cells.
            cells = 9 + number % 8
            names = sorted(range(1, 25), key=lambda cell: (cell * (number + 1)) % 25)
            sides = {}
            for pair in pairs_of_sides(24, some_tree(24, number)):
                side = tuple(cell for cell in range(1, cells + 1) if names.index(cell) + 1 in pair[0])
                if 2 <= len(side) <= cells - 2:
                    sides.setdefault(split_of_side(cells, side), side)
            told.append(self.check_wish(cells, list(sides.values())))
            told.append(self.check_wish(cells, list(sides.values())[::-1]))
        self.assertGreater(told.count("tree"), 10)
        self.assertGreater(told.count("no middle"), 5)

    def test_all_sides_at_once_end_within_seconds(self):
        begun = time.monotonic()
        error = self.raised(Crossing, 16, all_sides(16))
        self.assertEqual((error.first, error.second), (0, 1))
        told = splits(16, PATH)
        error = self.raised(Crossing, 16, told + [side for side in all_sides(16) if side not in told])
        self.assertEqual((error.first, error.second), (0, len(told)))
        self.assertLess(time.monotonic() - begun, 5)


if __name__ == "__main__":
    unittest.main()
