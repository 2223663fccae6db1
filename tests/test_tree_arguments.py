"""The arguments of the functions of reach and splits, the errors for these, and that results are new."""

import copy
import inspect
import unittest

from unnoted import reach, splits
from unnoted.errors import (Crossing, InvalidCells, InvalidSides, InvalidWeb, NoLog, NoMiddle, NotTree, UnknownCell)
from tests.reference import all_exchanges, all_trees, all_webs, some_tree
from tests.test_arguments import NO_EXCHANGES, NO_LISTS, WRONG_CELLS, ArgumentsTest, lists_within

REACH = [reach.can_end, reach.log_ending]
ONE_TREE = [splits.splits, splits.bundles, splits.count_alike, splits.alike_webs]
TWO_TREES = [splits.are_alike, splits.is_within]
PATH = [(1, 2), (2, 3), (3, 4)]

WRONG_PLACES = [0, -1, 5, 17, 10 ** 19, True, False, None, 1.0, 2.5, "1", b"1", "", [1], (1,), (1, 2), {}, {1}, 1 + 0j,
                object()]
# None of these is a side of a split of six cells.
NO_SIDES = [None, True, 5, 1.5, "23", b"23", "ab", "", {2, 3}, {2: 3, 3: 4}, frozenset([2, 3]), range(2, 4),
            iter([2, 3]), (), [], (2,), [2], (2, 2), [3, 2], (0, 1), (0, 2), (-1, 2), (5, 7), [2, 17], (2, 10 ** 19),
            (1, 2, 3, 4, 5), (2, 3, 4, 5, 6), [1, 2, 3, 4, 5, 6], (1, 2, 3, 4, 5, 6, 7),
            (True, 2), (False, 2), [1, True], (1.0, 2), (2, 3.0), (2, 2.5), ("2", "3"), (2, "3"),
            (None, 3), (3, None), ((2,), (3,)), [[2], [3]],
            (2, 3, 3), (2, 4, 3), (3, 2, 4), [2, []], [2, {}], (2, 3 + 0j), [2] * 100, (2, 3, 7), (0, 2, 3)]


def as_web(function):
    """A call of a function of two trees with one tree, as the first one."""
    return lambda cells, web: function(cells, web, [(1, cell) for cell in range(2, 5)])


def as_other(function):
    """A call of a function of two trees with one tree, as the second one, on four cells."""
    return lambda cells, web: function(cells, PATH, web)


def as_reach(function):
    """A call of a function of where a thing can end with a web alone."""
    return lambda cells, web: function(cells, web, 1, 2)


TREE_CALLS = ONE_TREE + [as_web(function) for function in TWO_TREES] + [as_other(function) for function in TWO_TREES]
WEB_CALLS = TREE_CALLS + [as_reach(function) for function in REACH]


class NamesTest(unittest.TestCase):
    def test_parameters(self):
        for function in REACH:
            self.assertEqual(list(inspect.signature(function).parameters), ["cells", "web", "cell", "end"])
        for function in ONE_TREE:
            self.assertEqual(list(inspect.signature(function).parameters), ["cells", "web"])
        for function in TWO_TREES:
            self.assertEqual(list(inspect.signature(function).parameters), ["cells", "web", "other"])
        self.assertEqual(list(inspect.signature(splits.web_with).parameters), ["cells", "sides"])

    def test_by_name_as_by_position(self):
        other = [(1, 4), (2, 3), (3, 4)]
        for function in REACH:
            self.assertEqual(function(end=3, cell=1, web=PATH, cells=4), function(4, PATH, 1, 3))
        for function in ONE_TREE:
            self.assertEqual(function(web=PATH, cells=4), function(4, PATH))
        for function in TWO_TREES:
            self.assertEqual(function(other=other, web=PATH, cells=4), function(4, PATH, other))
        self.assertEqual(splits.web_with(sides=[(3, 4)], cells=4), splits.web_with(4, [(3, 4)]))
        self.assertIs(splits.is_within(other=[(1, 2), (1, 3), (1, 4)], web=PATH, cells=4), True)

    def test_each_is_defined_in_its_file(self):
        for function in REACH:
            self.assertEqual(function.__module__, "unnoted.reach")
        for function in ONE_TREE + TWO_TREES + [splits.web_with]:
            self.assertEqual(function.__module__, "unnoted.splits")


class CellsTest(ArgumentsTest):
    def test_wrong_numbers_of_cells(self):
        for call in WEB_CALLS + [splits.web_with]:
            for cells in WRONG_CELLS:
                self.assertIs(self.raised(InvalidCells, call, cells, []).cells, cells)

    def test_cells_come_ahead_of_all_else(self):
        for wrong in (None, [None], [(1, 2), (1, 2)], all_exchanges(6)):
            for call in WEB_CALLS + [splits.web_with]:
                self.assertEqual(self.raised(InvalidCells, call, 0, wrong).cells, 0)
            for function in TWO_TREES:
                self.assertEqual(self.raised(InvalidCells, function, 17, wrong, wrong).cells, 17)
            for function in REACH:
                self.assertEqual(self.raised(InvalidCells, function, 17, wrong, None, None).cells, 17)


class WebTest(ArgumentsTest):
    def test_no_list(self):
        for call in WEB_CALLS:
            for web in NO_LISTS:
                self.assertIsNone(self.raised(InvalidWeb, call, 4, web).index)

    def test_a_thing_that_is_no_exchange(self):
        for call in WEB_CALLS:
            for thing in NO_EXCHANGES:
                for web in ([thing, (1, 2)], [(1, 2), thing, (3, 4)], [(1, 2), (1, 4), thing]):
                    index = [one is thing for one in web].index(True)
                    self.assertEqual(self.raised(InvalidWeb, call, 4, web).index, index)

    def test_an_exchange_that_is_not_greater_than_the_one_before(self):
        for call in WEB_CALLS:
            self.assertEqual(self.raised(InvalidWeb, call, 4, [(1, 2), (1, 2)]).index, 1)
            self.assertEqual(self.raised(InvalidWeb, call, 4, [(2, 3), (1, 4)]).index, 1)
            self.assertEqual(self.raised(InvalidWeb, call, 4, [(1, 2), (3, 4), (2, 4), None]).index, 2)

    def test_webs_that_are_trees_but_for_their_order(self):
        for call in WEB_CALLS:
            self.assertEqual(self.raised(InvalidWeb, call, 4, [(2, 3), (1, 2), (3, 4)]).index, 1)


class TreeTest(ArgumentsTest):
    def test_all_webs_of_four_cells(self):
        for web in all_webs(4):
            for call in TREE_CALLS:
                if web in all_trees(4):
                    call(4, web)
                else:
                    self.raised(NotTree, call, 4, web)

    def test_webs_of_few_and_many_cells(self):
        for function in ONE_TREE:
            self.raised(NotTree, function, 2, [])
            for cells in (3, 4, 15, 16):
                self.raised(NotTree, function, cells, [])
                self.raised(NotTree, function, cells, [(1, 2)])
            self.raised(NotTree, function, 3, [(1, 2), (1, 3), (2, 3)])
            self.raised(NotTree, function, 16, all_exchanges(16))
            self.raised(NotTree, function, 16, all_exchanges(15))
            # As many exchanges as a tree has, but with a ring and a cell alone.
            self.raised(NotTree, function, 16, [(1, cell) for cell in range(2, 16)] + [(2, 3)])
        for function in TWO_TREES:
            self.raised(NotTree, function, 2, [], [])
            self.raised(NotTree, function, 2, [(1, 2)], [])
            self.raised(NotTree, function, 2, [], [(1, 2)])

    def test_a_web_is_checked_ahead_of_whether_it_is_a_tree(self):
        for call in TREE_CALLS:
            self.assertEqual(self.raised(InvalidWeb, call, 4, [(1, 2), (3, 4), (3, 4)]).index, 2)
            self.assertEqual(self.raised(InvalidWeb, call, 4, all_exchanges(4) + [None]).index, 6)

    def test_web_comes_ahead_of_other(self):
        for function in TWO_TREES:
            for wrong in (None, [None], [], [(1, 2), (1, 2)], all_exchanges(4)):
                self.raised(NotTree, function, 4, [(1, 2), (3, 4)], wrong)
                self.assertIsNone(self.raised(InvalidWeb, function, 4, (), wrong).index)
                self.assertEqual(self.raised(InvalidWeb, function, 4, [(1, 2), None], wrong).index, 1)
            self.assertEqual(self.raised(InvalidWeb, function, 4, PATH, [(1, 2), (1, 3), (1, 5)]).index, 2)
            self.raised(NotTree, function, 4, PATH, [(1, 2), (1, 3), (2, 3)])


class PlacesTest(ArgumentsTest):
    def test_what_is_not_a_cell(self):
        for function in REACH:
            for place in WRONG_PLACES:
                self.assertIs(self.raised(UnknownCell, function, 4, PATH, place, 1).cell, place)
                self.assertIs(self.raised(UnknownCell, function, 4, PATH, 1, place).cell, place)
                self.assertIs(self.raised(UnknownCell, function, 4, [], place, place).cell, place)

    def test_the_cell_comes_ahead_of_the_end(self):
        for function in REACH:
            self.assertEqual(self.raised(UnknownCell, function, 4, PATH, 0, 5).cell, 0)
            self.assertEqual(self.raised(UnknownCell, function, 4, PATH, 5, 0).cell, 5)
            self.assertIsNone(self.raised(UnknownCell, function, 4, PATH, None, True).cell)

    def test_the_web_comes_ahead_of_both(self):
        for function in REACH:
            self.assertEqual(self.raised(InvalidWeb, function, 4, [(1, 2), None], None, None).index, 1)
            self.assertIsNone(self.raised(InvalidWeb, function, 4, None, 0, 0).index)

    def test_no_log_comes_behind_all_else(self):
        self.raised(NoLog, reach.log_ending, 4, PATH, 1, 1)
        self.raised(NoLog, reach.log_ending, 4, [(1, 2)], 1, 3)
        self.assertEqual(self.raised(UnknownCell, reach.log_ending, 4, [], 1, 5).cell, 5)

    def test_webs_with_rings_and_pieces_will_do(self):
        for function in REACH:
            function(4, [(1, 2), (3, 4)], 3, 4)
            function(16, all_exchanges(16), 16, 16)


class SidesTest(ArgumentsTest):
    def test_no_list(self):
        for sides in NO_LISTS + [((2, 3),), {(2, 3)}, "23"]:
            self.assertIsNone(self.raised(InvalidSides, splits.web_with, 6, sides).index)

    def test_a_thing_that_is_no_side(self):
        for thing in NO_SIDES:
            for sides in ([thing], [thing, (2, 3)], [(2, 3), thing], [(2, 3), thing, (2, 3)], [(3, 5), (3, 6), thing]):
                index = [one is thing for one in sides].index(True)
                self.assertEqual(self.raised(InvalidSides, splits.web_with, 6, sides).index, index)

    def test_two_cells_or_more_inside_and_outside(self):
        for cells in range(1, 17):
            for many in range(cells + 1):
                side = list(range(1, many + 1))
                if 2 <= many <= cells - 2:
                    splits.web_with(cells, [side])
                    splits.web_with(cells, [tuple(side)])
                else:
                    self.assertEqual(self.raised(InvalidSides, splits.web_with, cells, [side]).index, 0)
                    self.assertEqual(self.raised(InvalidSides, splits.web_with, cells, [tuple(side)]).index, 0)

    def test_a_split_that_was_told_before(self):
        for again in ((2, 3), [2, 3], (1, 4, 5, 6), [1, 4, 5, 6]):
            self.assertEqual(self.raised(InvalidSides, splits.web_with, 6, [(2, 3), again]).index, 1)
            self.assertEqual(self.raised(InvalidSides, splits.web_with, 6, [again, (2, 3)]).index, 1)
            self.assertEqual(self.raised(InvalidSides, splits.web_with, 6, [(2, 3), (5, 6), again, None]).index, 2)
        self.assertEqual(self.raised(InvalidSides, splits.web_with, 4, [(1, 2), (3, 4)]).index, 1)

    def test_the_first_of_several_wrong_things(self):
        self.assertEqual(self.raised(InvalidSides, splits.web_with, 6, [(2, 3), (2,), (2, 3), None]).index, 1)
        self.assertEqual(self.raised(InvalidSides, splits.web_with, 6, [(2, 3), (2, 3), (2,)]).index, 1)
        self.assertEqual(self.raised(InvalidSides, splits.web_with, 6, [None, None]).index, 0)

    def test_sides_come_ahead_of_crossing_and_no_middle(self):
        self.assertEqual(self.raised(InvalidSides, splits.web_with, 6, [(2, 3), (3, 4), (2, 3)]).index, 2)
        self.assertEqual(self.raised(InvalidSides, splits.web_with, 6, [(1, 2), (3, 4), (5, 6), ()]).index, 3)
        self.raised(Crossing, splits.web_with, 6, [(2, 3), (3, 4)])
        self.raised(NoMiddle, splits.web_with, 6, [(1, 2), (3, 4), (5, 6)])


class ResultsTest(ArgumentsTest):
    SOME = [(1, []), (2, [(1, 2)]), (3, [(1, 3), (2, 3)]), (4, PATH), (6, [(1, 2), (1, 3), (3, 4), (3, 5), (5, 6)]),
            (16, some_tree(16, 5))]

    def all_calls(self):
        """Functions without parameters, each with a list that it passes."""
        calls = []
        for cells, web in self.SOME:
            for function in ONE_TREE:
                calls.append((lambda passed, f=function, c=cells: f(c, passed), web))
            for function in TWO_TREES:
                calls.append((lambda passed, f=function, c=cells: f(c, passed, passed), web))
            for function in REACH:
                calls.append((lambda passed, f=function, c=cells: f(c, passed, c, 1), web if cells != 1 else []))
        calls.append((lambda passed: splits.web_with(6, passed), [[1, 2], (5, 6)]))
        calls.append((lambda passed: splits.web_with(6, passed), [[2, 3], [2, 3, 4], [1, 5]]))
        return calls

    def test_arguments_are_not_changed(self):
        for call, thing in self.all_calls():
            passed = copy.deepcopy(thing)
            call(passed)
            self.assertEqual(passed, thing)

    def test_arguments_are_not_changed_by_an_error(self):
        for call in WEB_CALLS:
            passed = [(1, 2), (3, 4), [1, 2]]
            self.raised(InvalidWeb, call, 4, passed)
            self.assertEqual(passed, [(1, 2), (3, 4), [1, 2]])
        for kind, sides in ((InvalidSides, [[2, 3], [1, 4, 5, 6]]), (Crossing, [[2, 3], [3, 4]]),
                            (NoMiddle, [[3, 4], [1, 2], [5, 6]])):
            passed = copy.deepcopy(sides)
            self.raised(kind, splits.web_with, 6, passed)
            self.assertEqual(passed, sides)

    def test_lists_are_new_and_none_occurs_twice(self):
        for call, thing in self.all_calls():
            found = lists_within(call(thing)) + lists_within(call(thing)) + lists_within(thing)
            self.assertEqual(len({id(one) for one in found}), len(found))

    def test_changing_a_result_changes_nothing_else(self):
        for call, thing in self.all_calls():
            passed = copy.deepcopy(thing)
            first = call(passed)
            kept = copy.deepcopy(first)
            for one in lists_within(first):
                one.clear()
            self.assertEqual(passed, thing)
            self.assertEqual(call(passed), kept)

    def test_the_indexes_of_no_middle_are_new(self):
        sides = [(1, 2), (3, 4), (5, 6)]
        self.raised(NoMiddle, splits.web_with, 6, sides).indexes.clear()
        self.assertEqual(self.raised(NoMiddle, splits.web_with, 6, sides).indexes, [0, 1, 2])

    def test_kinds_of_results(self):
        self.assertIs(reach.can_end(2, [(1, 2)], 1, 2), True)
        self.assertIs(reach.can_end(2, [(1, 2)], 1, 1), False)
        self.assertIs(splits.are_alike(2, [(1, 2)], [(1, 2)]), True)
        self.assertIs(splits.are_alike(4, PATH, [(1, 2), (1, 3), (1, 4)]), False)
        self.assertIs(splits.is_within(1, [], []), True)
        self.assertIs(splits.is_within(4, [(1, 2), (1, 3), (1, 4)], PATH), False)
        self.assertIs(type(splits.count_alike(1, [])), int)


if __name__ == "__main__":
    unittest.main()
