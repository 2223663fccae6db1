"""The arguments of the functions of nights and of the class Nights, the errors for these, and that results are new."""

import copy
import inspect
import unittest

from unnoted import nights as module
from unnoted.errors import (InvalidCells, InvalidEnds, InvalidWeb, NothingToUndo, NotTree, Unfit, UnknownCell)
from unnoted.nights import Nights, meetings, parting, telling_nights, web_by_meetings
from tests.reference import all_exchanges, all_trees, all_webs, ends_by_walking, some_tree
from tests.test_arguments import NO_EXCHANGES, NO_LISTS, WRONG_CELLS, ArgumentsTest, lists_within
from tests.test_tree_arguments import WRONG_PLACES

PATH = [(1, 2), (2, 3), (3, 4)]
STAR = [(1, 2), (1, 3), (1, 4)]
ROUND = [2, 3, 4, 1]
METHODS = {"see": ["ends"], "has": ["first", "second"], "lacks": ["first", "second"], "busy": ["cell"], "undo": [],
           "count": [], "fits": ["web"], "may": ["first", "second"], "must": ["first", "second"], "a_tree": [],
           "trees": [], "stretches": []}
OF_TWO = ["has", "lacks", "may", "must"]


def as_telling(cells, web):
    return telling_nights(cells, web)


def as_web(cells, web):
    return parting(cells, web, STAR)


def as_other(cells, web):
    return parting(cells, PATH, web)


def as_meeting(cells, web):
    return meetings(cells, web, ROUND)


def as_pairs(cells, web):
    return web_by_meetings(cells, ROUND, web)


def as_fitting(_, web):
    return Nights(4, ROUND).fits(web)


def ends_of_meetings(cells, ends):
    return meetings(cells, PATH, ends)


def ends_by_meetings(cells, ends):
    return web_by_meetings(cells, ends, PATH)


def ends_seen(_, ends):
    return Nights(4, ROUND).see(ends)


WEB_CALLS = [as_telling, as_web, as_other, as_meeting, as_pairs, as_fitting]
ENDS_CALLS = [ends_of_meetings, ends_by_meetings, Nights, ends_seen]


def state(nights):
    """All that can be read off an object."""
    return len(nights), nights.nights, nights.known, nights.count(), nights.stretches(), nights.trees()


class NamesTest(unittest.TestCase):
    def test_parameters_of_functions(self):
        told = {telling_nights: ["cells", "web"], parting: ["cells", "web", "other"],
                meetings: ["cells", "web", "ends"], web_by_meetings: ["cells", "ends", "pairs"],
                Nights: ["cells", "ends"]}
        for function, names in told.items():
            self.assertEqual(list(inspect.signature(function).parameters), names)
            self.assertEqual(function.__module__, "unnoted.nights")

    def test_methods_and_properties_stand_in_the_class_itself(self):
        for name, names in METHODS.items():
            self.assertTrue(inspect.isfunction(vars(Nights)[name]))
            self.assertEqual(list(inspect.signature(vars(Nights)[name]).parameters), ["self"] + names)
        for name in ("nights", "known"):
            self.assertIsInstance(vars(Nights)[name], property)
        self.assertIn("__len__", vars(Nights))
        self.assertEqual(Nights.__bases__, (object,))

    def test_by_name_as_by_position(self):
        self.assertEqual(telling_nights(web=PATH, cells=4), telling_nights(4, PATH))
        self.assertEqual(parting(other=STAR, web=PATH, cells=4), parting(4, PATH, STAR))
        self.assertEqual(meetings(ends=ROUND, web=STAR, cells=4), meetings(4, STAR, ROUND))
        self.assertEqual(web_by_meetings(pairs=STAR, ends=ROUND, cells=4), web_by_meetings(4, ROUND, STAR))
        nights = Nights(ends=ROUND, cells=4)
        self.assertIsNone(nights.see(ends=[2, 4, 1, 3]))
        self.assertIsNone(nights.has(second=2, first=1))
        self.assertIsNone(nights.lacks(second=4, first=2))
        self.assertIsNone(nights.busy(cell=1))
        self.assertEqual((nights.may(second=2, first=1), nights.must(second=4, first=2)), (True, False))
        self.assertIs(nights.fits(web=STAR), True)
        self.assertEqual(nights.known, [("has", 1, 2), ("lacks", 2, 4), ("busy", 1)])

    def test_the_file_has_them(self):
        self.assertLessEqual({"telling_nights", "parting", "meetings", "web_by_meetings", "Nights"}, set(vars(module)))


class CellsTest(ArgumentsTest):
    def test_wrong_numbers_of_cells(self):
        for cells in WRONG_CELLS:
            self.assertIs(self.raised(InvalidCells, telling_nights, cells, []).cells, cells)
            self.assertIs(self.raised(InvalidCells, parting, cells, [], []).cells, cells)
            self.assertIs(self.raised(InvalidCells, meetings, cells, [], [1]).cells, cells)
            self.assertIs(self.raised(InvalidCells, web_by_meetings, cells, [1], []).cells, cells)
            self.assertIs(self.raised(InvalidCells, Nights, cells, [1]).cells, cells)

    def test_nights_of_one_to_ten_cells(self):
        for cells in range(1, 11):
            self.assertEqual(len(Nights(cells, list(range(2, cells + 1)) + [1])), 1)
        for cells in range(11, 17):
            for ends in (list(range(2, cells + 1)) + [1], list(range(1, cells + 1)), [], None):
                self.assertEqual(self.raised(InvalidCells, Nights, cells, ends).cells, cells)

    def test_functions_of_one_and_sixteen_cells(self):
        web = some_tree(16, 3)
        ends = ends_by_walking(16, web)
        self.assertIsNone(parting(16, web, web))
        self.assertEqual(len(meetings(16, web, ends)), 15)
        self.assertEqual(web_by_meetings(16, ends, meetings(16, web, ends)), web)
        self.assertEqual((telling_nights(1, []), parting(1, [], []), meetings(1, [], [1]), web_by_meetings(1, [1], [])),
                         ([], None, [], []))

    def test_cells_come_ahead_of_all_else(self):
        for wrong in (None, [None], [], [(1, 2), (1, 2)], all_exchanges(6)):
            self.assertEqual(self.raised(InvalidCells, telling_nights, 0, wrong).cells, 0)
            for function in (parting, meetings, web_by_meetings):
                self.assertEqual(self.raised(InvalidCells, function, 17, wrong, wrong).cells, 17)
            self.assertEqual(self.raised(InvalidCells, Nights, 11, wrong).cells, 11)


class WebTest(ArgumentsTest):
    def test_no_list(self):
        for call in WEB_CALLS:
            for web in NO_LISTS:
                self.assertIsNone(self.raised(InvalidWeb, call, 4, web).index)

    def test_a_thing_that_is_no_exchange(self):
        for call in WEB_CALLS:
            for thing in NO_EXCHANGES:
                for web in ([thing, (1, 2)], [(1, 2), thing, (3, 4)], [(1, 2), (1, 4), thing], [thing, thing]):
                    index = [one is thing for one in web].index(True)
                    self.assertEqual(self.raised(InvalidWeb, call, 4, web).index, index)

    def test_an_exchange_that_is_not_greater_than_the_one_before(self):
        for call in WEB_CALLS:
            self.assertEqual(self.raised(InvalidWeb, call, 4, [(1, 2), (1, 2), None]).index, 1)
            self.assertEqual(self.raised(InvalidWeb, call, 4, [(2, 3), (1, 2), (3, 4)]).index, 1)
            self.assertEqual(self.raised(InvalidWeb, call, 4, [(1, 2), (3, 4), (2, 4), (2, 4)]).index, 2)

    def test_all_webs_of_four_cells(self):
        trees = all_trees(4)
        for web in all_webs(4):
            if web not in trees:
                for call in WEB_CALLS:
                    self.raised(NotTree, call, 4, web)

    def test_no_trees_of_few_and_many_cells(self):
        for cells, web in ((2, []), (3, [(1, 2)]), (3, [(1, 2), (1, 3), (2, 3)]), (16, []), (16, all_exchanges(16)),
                           (16, [(1, cell) for cell in range(2, 16)] + [(2, 3)])):
            ends = list(range(2, cells + 1)) + [1]
            self.raised(NotTree, telling_nights, cells, web)
            self.raised(NotTree, parting, cells, web, web)
            self.raised(NotTree, meetings, cells, web, ends)
            self.raised(NotTree, web_by_meetings, cells, ends, web)

    def test_web_comes_ahead_of_other(self):
        for wrong in (None, [None], [], [(1, 2), (1, 2)], all_exchanges(4)):
            self.raised(NotTree, parting, 4, [(1, 2), (3, 4)], wrong)
            self.assertIsNone(self.raised(InvalidWeb, parting, 4, (), wrong).index)
            self.assertEqual(self.raised(InvalidWeb, parting, 4, [(1, 2), None], wrong).index, 1)
        self.assertEqual(self.raised(InvalidWeb, parting, 4, PATH, [(1, 2), (1, 3), (1, 5)]).index, 2)
        self.raised(NotTree, parting, 4, PATH, [(1, 2), (1, 3), (2, 3)])

    def test_web_comes_ahead_of_ends(self):
        for wrong in (None, [], [1, 1, None, 4], [1, 2, 3, 4]):
            self.raised(NotTree, meetings, 4, [(1, 2), (3, 4)], wrong)
            self.assertEqual(self.raised(InvalidWeb, meetings, 4, [(1, 2), None], wrong).index, 1)

    def test_ends_come_ahead_of_pairs(self):
        for wrong in (None, [None], [], [(1, 2), (1, 2)], all_exchanges(4), PATH):
            self.assertIsNone(self.raised(InvalidEnds, web_by_meetings, 4, [1, 2, 3], wrong).index)
            self.assertEqual(self.raised(InvalidEnds, web_by_meetings, 4, [1, 2, 2, None], wrong).index, 2)

    def test_what_does_not_fit_comes_behind_all_else(self):
        still = [1, 2, 3, 4]
        self.assertEqual(self.raised(InvalidEnds, meetings, 4, PATH, [1, 2, 3, 3]).index, 3)
        self.assertEqual(self.raised(InvalidWeb, web_by_meetings, 4, still, [(1, 2), (1, 2)]).index, 1)
        self.raised(NotTree, web_by_meetings, 4, still, [(1, 2), (3, 4)])
        self.raised(NotTree, meetings, 4, [(1, 2), (3, 4)], still)
        self.raised(Unfit, meetings, 4, PATH, still)
        self.raised(Unfit, web_by_meetings, 4, still, PATH)
        self.assertEqual(self.raised(InvalidEnds, Nights, 4, [2, 1, 4, 4]).index, 3)
        self.assertEqual(self.raised(InvalidEnds, ends_seen, 4, [2, 1, 4, 4]).index, 3)
        self.raised(Unfit, Nights, 4, [2, 1, 4, 3])
        self.raised(Unfit, ends_seen, 4, [2, 1, 4, 3])


class EndsTest(ArgumentsTest):
    def test_no_list_of_so_many_things(self):
        for call in ENDS_CALLS:
            for ends in NO_LISTS + [[], [1], [2, 3, 1], [2, 3, 4, 5, 1], [None] * 5, (2, 3, 4, 1), {1, 2, 3, 4}]:
                self.assertIsNone(self.raised(InvalidEnds, call, 4, ends).index)

    def test_a_thing_that_is_no_cell(self):
        for call in ENDS_CALLS:
            for thing in WRONG_PLACES:
                for ends in ([thing, 3, 4, 1], [2, thing, 2, 1], [2, 3, 4, thing], [2, 3, thing, thing]):
                    index = [one is thing for one in ends].index(True)
                    self.assertEqual(self.raised(InvalidEnds, call, 4, ends).index, index)

    def test_a_cell_that_was_there_before(self):
        for call in ENDS_CALLS:
            self.assertEqual(self.raised(InvalidEnds, call, 4, [2, 2, 2, None]).index, 1)
            self.assertEqual(self.raised(InvalidEnds, call, 4, [2, 3, 2, 9]).index, 2)
            self.assertEqual(self.raised(InvalidEnds, call, 4, [2, 3, 4, 2]).index, 3)


class TwoCellsTest(ArgumentsTest):
    def test_what_is_not_a_cell(self):
        for name in OF_TWO:
            call = getattr(Nights(4, ROUND), name)
            for place in WRONG_PLACES:
                self.assertIs(self.raised(UnknownCell, call, place, 1).cell, place)
                self.assertIs(self.raised(UnknownCell, call, 1, place).cell, place)
                self.assertIs(self.raised(UnknownCell, call, place, place).cell, place)

    def test_first_comes_ahead_of_second(self):
        for name in OF_TWO:
            call = getattr(Nights(4, ROUND), name)
            self.assertEqual(self.raised(UnknownCell, call, 0, 5).cell, 0)
            self.assertEqual(self.raised(UnknownCell, call, 5, 0).cell, 5)
            self.assertEqual(self.raised(UnknownCell, call, 17, None).cell, 17)
            self.assertIsNone(self.raised(UnknownCell, call, None, 17).cell)

    def test_the_same_cell(self):
        for name in OF_TWO:
            for cells in (1, 2, 4):
                call = getattr(Nights(cells, list(range(2, cells + 1)) + [1]), name)
                for cell in range(1, cells + 1):
                    self.assertIsNone(self.raised(UnknownCell, call, cell, cell).cell)

    def test_one_cell(self):
        for name in OF_TWO:
            call = getattr(Nights(1, [1]), name)
            self.assertEqual(self.raised(UnknownCell, call, 1, 2).cell, 2)
            self.assertEqual(self.raised(UnknownCell, call, 2, 1).cell, 2)

    def test_a_busy_cell(self):
        for place in WRONG_PLACES:
            self.assertIs(self.raised(UnknownCell, Nights(4, ROUND).busy, place).cell, place)
        self.assertEqual(self.raised(UnknownCell, Nights(1, [1]).busy, 2).cell, 2)

    def test_cells_are_checked_ahead_of_what_fits(self):
        nights = Nights(2, [2, 1])
        self.assertIsNone(self.raised(UnknownCell, nights.lacks, 2, 2).cell)
        self.assertEqual(self.raised(UnknownCell, nights.lacks, 2, 3).cell, 3)
        self.raised(Unfit, nights.lacks, 2, 1)


class StateTest(ArgumentsTest):
    """Objects stay as they are when a call raises an error, and nothing that is handed in or out is shared."""

    def told(self):
        """An object with nights and other things."""
        nights = Nights(5, [2, 3, 4, 5, 1])
        nights.see([2, 4, 1, 5, 3])
        nights.has(1, 2)
        nights.lacks(3, 2)
        nights.busy(4)
        return nights

    def test_errors_change_nothing(self):
        nights = self.told()
        before = state(nights)
        for kind, call, arguments in (
                (InvalidEnds, nights.see, ([2, 3, 4, 5],)), (InvalidEnds, nights.see, ([2, 3, 4, 5, 5],)),
                (InvalidEnds, nights.see, (None,)), (Unfit, nights.see, ([2, 1, 4, 5, 3],)),
                (UnknownCell, nights.has, (0, 1)), (UnknownCell, nights.has, (1, 1)), (Unfit, nights.has, (2, 3)),
                (UnknownCell, nights.lacks, (1, 6)), (Unfit, nights.lacks, (2, 1)), (UnknownCell, nights.busy, (6,)),
                (UnknownCell, nights.may, (1, 6)), (UnknownCell, nights.must, (None, 6)),
                (InvalidWeb, nights.fits, (None,)), (NotTree, nights.fits, ([],))):
            self.raised(kind, call, *arguments)
            self.assertEqual(state(nights), before)

    def test_a_night_that_no_tree_with_the_known_exchanges_fits(self):
        nights = Nights(4, ROUND)
        for first, second in PATH:
            nights.has(first, second)
        before = state(nights)
        self.raised(Unfit, nights.see, [3, 4, 2, 1])
        self.assertEqual(state(nights), before)
        self.assertIsNone(nights.see([2, 4, 1, 3]))

    def test_questions_change_nothing(self):
        nights = self.told()
        before = state(nights)
        for _ in range(2):
            for call in (nights.a_tree, nights.count, nights.trees, nights.stretches, lambda: nights.may(1, 2),
                         lambda: nights.must(2, 1), lambda: nights.fits([(1, cell) for cell in range(2, 6)])):
                self.assertEqual(call(), call())
                self.assertEqual(state(nights), before)

    def test_lists_that_are_handed_in_are_copied(self):
        first, second = [2, 3, 4, 1], [2, 4, 1, 3]
        nights = Nights(4, first)
        nights.see(second)
        before = state(nights)
        first.reverse()
        second.clear()
        self.assertEqual(state(nights), before)
        nights.undo()
        self.assertEqual(nights.nights, [[2, 3, 4, 1]])

    def test_lists_that_are_handed_out_are_new(self):
        nights = self.told()
        before = state(nights)
        for call in (lambda: nights.nights, lambda: nights.known, nights.stretches, nights.trees, nights.a_tree):
            found = lists_within(call()) + lists_within(call())
            self.assertEqual(len({id(one) for one in found}), len(found))
            for one in found:
                one.clear()
            self.assertEqual(state(nights), before)
        nights.undo()
        self.assertEqual(nights.known, [("has", 1, 2), ("lacks", 2, 3)])

    def test_the_same_list_twice(self):
        ends = [2, 3, 4, 1]
        nights = Nights(4, ends)
        nights.see(ends)
        found = lists_within(nights.nights) + [ends]
        self.assertEqual(len({id(one) for one in found}), 4)

    def test_objects_do_not_share_what_they_were_told(self):
        one, two = Nights(4, ROUND), Nights(4, ROUND)
        one.has(1, 3)
        one.see([2, 4, 1, 3])
        self.assertEqual(state(two), state(Nights(4, ROUND)))
        self.raised(NothingToUndo, two.undo)

    def test_kinds_of_results(self):
        nights = self.told()
        self.assertIs(type(nights.count()), int)
        self.assertIs(nights.may(1, 2), True)
        self.assertIs(nights.may(2, 3), False)
        self.assertIs(nights.must(1, 2), True)
        self.assertIs(nights.must(2, 3), False)
        self.assertIs(nights.fits([(1, 2), (1, 3), (1, 4), (1, 5)]), False)
        self.assertIs(nights.fits(nights.a_tree()), True)
        self.assertTrue(all(type(side) is tuple for side in nights.stretches()))
        self.assertTrue(all(type(pair) is tuple for pair in meetings(4, STAR, ROUND)))
        self.assertTrue(all(type(pair) is tuple for pair in web_by_meetings(4, ROUND, STAR)))


class ResultsTest(ArgumentsTest):
    """The functions."""

    def all_calls(self):
        """Functions without parameters, each with the lists that it passes."""
        web = some_tree(16, 8)
        ends = ends_by_walking(16, web)
        return [(telling_nights, 4, [PATH]), (telling_nights, 16, [web]), (telling_nights, 3, [[(1, 2), (1, 3)]]),
                (parting, 4, [PATH, STAR]), (parting, 4, [STAR, PATH]), (parting, 16, [web, some_tree(16, 9)]),
                (meetings, 4, [STAR, ROUND]), (meetings, 16, [web, ends]), (meetings, 1, [[], [1]]),
                (web_by_meetings, 4, [ROUND, STAR]), (web_by_meetings, 16, [ends, meetings(16, web, ends)])]

    def test_arguments_are_not_changed(self):
        for call, cells, things in self.all_calls():
            passed = copy.deepcopy(things)
            call(cells, *passed)
            self.assertEqual(passed, things)

    def test_arguments_are_not_changed_by_an_error(self):
        for kind, call, things in ((NotTree, telling_nights, [PATH[:2]]), (InvalidWeb, parting, [PATH, PATH[::-1]]),
                                   (Unfit, meetings, [PATH, [2, 1, 4, 3]]), (InvalidEnds, Nights, [[2, 3, 1, 1]]),
                                   (Unfit, web_by_meetings, [[2, 1, 4, 3], PATH]), (Unfit, Nights, [[2, 1, 4, 3]])):
            passed = copy.deepcopy(things)
            self.raised(kind, call, 4, *passed)
            self.assertEqual(passed, things)

    def test_lists_are_new_and_none_occurs_twice(self):
        for call, cells, things in self.all_calls():
            found = lists_within(call(cells, *things)) + lists_within(call(cells, *things)) + lists_within(things)
            self.assertEqual(len({id(one) for one in found}), len(found))

    def test_changing_a_result_changes_nothing_else(self):
        for call, cells, things in self.all_calls():
            passed = copy.deepcopy(things)
            first = call(cells, *passed)
            kept = copy.deepcopy(first)
            for one in lists_within(first):
                one.clear()
            self.assertEqual(passed, things)
            self.assertEqual(call(cells, *passed), kept)


if __name__ == "__main__":
    unittest.main()
