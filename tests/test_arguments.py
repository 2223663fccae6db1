"""What all functions of webs and logs share: their arguments, the errors for these, and that results are new."""

import copy
import inspect
import time
import unittest

from unnoted import logs, webs
from unnoted.errors import InvalidCells, InvalidLog, InvalidNumber, InvalidWeb
from tests.reference import all_exchanges

WEB_FUNCTIONS = [webs.pieces, webs.bridges, webs.is_tree, webs.round_bounds, logs.count_kinds, logs.all_ends]
LOG_FUNCTIONS = [logs.ends, logs.ways, logs.orders, logs.faces, logs.met, logs.turns, logs.count_of_kind]
MOST = {logs.count_kinds: 10, logs.count_of_kind: 10, logs.all_ends: 6}


def as_log(cells, log):
    return logs.are_one_kind(cells, log, [])


def as_other(cells, log):
    return logs.are_one_kind(cells, [], log)


LOG_CALLS = LOG_FUNCTIONS + [as_log, as_other]
ALL_CALLS = WEB_FUNCTIONS + LOG_CALLS

WRONG_CELLS = [0, -1, 17, 18, -16, 10 ** 19, True, False, None, 3.0, 1.5, "3", b"3", "", [3], (3,), {}, {3: 3}, object]
NO_LISTS = [None, True, 0, 1, 1.5, "", "ab", b"ab", (), ((1, 2),), ((1, 2), (1, 3)), {}, {(1, 2): 1}, {(1, 2)},
            frozenset([(1, 2)]), range(2), iter([(1, 2)]), list]
# None of these is an exchange of four cells.
NO_EXCHANGES = [[1, 2], (2, 1), (1, 1), (4, 4), (0, 1), (0, 0), (-1, 2), (1, 5), (4, 5), (5, 6), (1, 10 ** 19),
                (), (1,), (1, 2, 3), None, True, 12, 1.5, "12", b"12", "ab", (True, 2), (False, 2), (False, True),
                (1.0, 2), (1, 2.0), (1, 2.5), ("1", "2"), ("1", 2), (1, "2"), (None, 2), (1, None), ((1,), (2,)),
                ([1], [2]), ([], 2), (1, []), ({}, 2), {1, 2}, {1: 2}, range(1, 3), iter((1, 2)), (1, 2 + 0j)]


def lists_within(thing):
    """All lists that a thing consists of, itself included."""
    if not isinstance(thing, (list, tuple)):
        return []
    inner = [one for part in thing for one in lists_within(part)]
    return inner + [thing] if isinstance(thing, list) else inner


class ArgumentsTest(unittest.TestCase):
    def raised(self, kind, call, *arguments):
        with self.assertRaises(kind) as caught:
            call(*arguments)
        self.assertIs(type(caught.exception), kind)
        return caught.exception


class NamesTest(unittest.TestCase):
    def test_parameters(self):
        for function in WEB_FUNCTIONS:
            self.assertEqual(list(inspect.signature(function).parameters), ["cells", "web"])
        for function in LOG_FUNCTIONS:
            self.assertEqual(list(inspect.signature(function).parameters), ["cells", "log"])
        self.assertEqual(list(inspect.signature(logs.are_one_kind).parameters), ["cells", "log", "other"])

    def test_by_name_as_by_position(self):
        web = [(1, 2), (1, 3), (3, 4)]
        for function in WEB_FUNCTIONS:
            self.assertEqual(function(web=web, cells=4), function(4, web))
        for function in LOG_FUNCTIONS:
            self.assertEqual(function(log=web, cells=4), function(4, web))
        self.assertIs(logs.are_one_kind(other=web, log=web, cells=4), True)

    def test_each_is_defined_in_its_file(self):
        for function in [webs.pieces, webs.bridges, webs.is_tree, webs.round_bounds]:
            self.assertEqual(function.__module__, "unnoted.webs")
        for function in LOG_FUNCTIONS + [logs.are_one_kind, logs.count_kinds, logs.all_ends]:
            self.assertEqual(function.__module__, "unnoted.logs")


class CellsTest(ArgumentsTest):
    def test_wrong_numbers_of_cells(self):
        for call in ALL_CALLS:
            for cells in WRONG_CELLS:
                self.assertIs(self.raised(InvalidCells, call, cells, []).cells, cells)

    def test_one_and_sixteen_cells(self):
        for call in ALL_CALLS:
            call(1, [])
            call(16, [])
            call(16, [(1, 16), (15, 16)])

    def test_cells_come_ahead_of_all_else(self):
        for call in ALL_CALLS:
            for wrong in (None, [None], [(1, 2), (1, 2)], all_exchanges(6)):
                self.assertEqual(self.raised(InvalidCells, call, 0, wrong).cells, 0)
        self.assertIs(self.raised(InvalidCells, logs.are_one_kind, None, None, None).cells, None)


class WebTest(ArgumentsTest):
    def test_no_list(self):
        for call in WEB_FUNCTIONS:
            for web in NO_LISTS:
                self.assertIsNone(self.raised(InvalidWeb, call, 4, web).index)

    def test_a_thing_that_is_no_exchange(self):
        for call in WEB_FUNCTIONS:
            for thing in NO_EXCHANGES:
                for web in ([thing, (1, 2)], [(1, 2), thing, (3, 4)], [(1, 2), (1, 4), thing]):
                    index = [one is thing for one in web].index(True)
                    self.assertEqual(self.raised(InvalidWeb, call, 4, web).index, index)

    def test_an_exchange_that_is_not_greater_than_the_one_before(self):
        for call in WEB_FUNCTIONS:
            self.assertEqual(self.raised(InvalidWeb, call, 4, [(1, 2), (1, 2)]).index, 1)
            self.assertEqual(self.raised(InvalidWeb, call, 4, [(1, 3), (1, 2)]).index, 1)
            self.assertEqual(self.raised(InvalidWeb, call, 4, [(2, 3), (1, 4)]).index, 1)
            self.assertEqual(self.raised(InvalidWeb, call, 4, [(1, 2), (3, 4), (2, 4)]).index, 2)
            self.assertEqual(self.raised(InvalidWeb, call, 4, [(1, 2), (3, 4), (1, 2)]).index, 2)

    def test_the_first_of_several_wrong_things(self):
        for call in WEB_FUNCTIONS:
            self.assertEqual(self.raised(InvalidWeb, call, 4, [(1, 2), None, (1, 2), (0, 1)]).index, 1)
            self.assertEqual(self.raised(InvalidWeb, call, 4, [(1, 3), (1, 2), [1, 4], (1, 4)]).index, 1)
            self.assertEqual(self.raised(InvalidWeb, call, 4, [(1, 5), (1, 2), (1, 2)]).index, 0)

    def test_the_cells_of_an_exchange_must_be_there(self):
        for call in WEB_FUNCTIONS:
            self.assertEqual(self.raised(InvalidWeb, call, 1, [(1, 2)]).index, 0)
            self.assertEqual(self.raised(InvalidWeb, call, 16, [(1, 16), (16, 17)]).index, 1)


class LogTest(ArgumentsTest):
    def test_no_list(self):
        for call in LOG_CALLS:
            for log in NO_LISTS:
                self.assertIsNone(self.raised(InvalidLog, call, 4, log).index)

    def test_a_thing_that_is_no_exchange(self):
        for call in LOG_CALLS:
            for thing in NO_EXCHANGES:
                for log in ([thing, (1, 4)], [(3, 4), thing, (1, 4)], [(3, 4), (1, 4), thing]):
                    index = [one is thing for one in log].index(True)
                    self.assertEqual(self.raised(InvalidLog, call, 4, log).index, index)

    def test_an_exchange_that_was_there_before(self):
        for call in LOG_CALLS:
            self.assertEqual(self.raised(InvalidLog, call, 4, [(1, 2), (1, 2)]).index, 1)
            self.assertEqual(self.raised(InvalidLog, call, 4, [(2, 3), (1, 2), (3, 4), (2, 3)]).index, 3)
            self.assertEqual(self.raised(InvalidLog, call, 4, [(2, 3), (1, 2), (1, 2), (2, 3)]).index, 2)

    def test_any_order_will_do(self):
        for call in LOG_CALLS:
            call(4, [(3, 4), (1, 2), (2, 4), (1, 3)])

    def test_the_first_of_several_wrong_things(self):
        for call in LOG_CALLS:
            self.assertEqual(self.raised(InvalidLog, call, 4, [(3, 4), (4, 1), (3, 4), None]).index, 1)
            self.assertEqual(self.raised(InvalidLog, call, 4, [(3, 4), (1, 2), (3, 4), None]).index, 2)

    def test_the_cells_of_an_exchange_must_be_there(self):
        for call in LOG_CALLS:
            self.assertEqual(self.raised(InvalidLog, call, 1, [(1, 2)]).index, 0)
            self.assertEqual(self.raised(InvalidLog, call, 16, [(15, 16), (16, 17)]).index, 1)

    def test_log_comes_ahead_of_other(self):
        self.assertEqual(self.raised(InvalidLog, logs.are_one_kind, 4, [(1, 2), None], None).index, 1)
        self.assertEqual(self.raised(InvalidLog, logs.are_one_kind, 4, [(1, 2), None], [None]).index, 1)
        self.assertIsNone(self.raised(InvalidLog, logs.are_one_kind, 4, None, [None]).index)
        self.assertIsNone(self.raised(InvalidLog, logs.are_one_kind, 4, [(1, 2)], None).index)


class NumberTest(ArgumentsTest):
    def test_as_many_exchanges_as_may_be(self):
        for call, most in MOST.items():
            call(16, all_exchanges(16)[:most])

    def test_too_many_exchanges(self):
        for call, most in MOST.items():
            for many in (most + 1, most + 2, 100, 120):
                number = self.raised(InvalidNumber, call, 16, all_exchanges(16)[:many]).number
                self.assertIs(type(number), int)
                self.assertEqual(number, many)

    def test_the_number_comes_behind_all_else(self):
        many = all_exchanges(16)[:20]
        for call in (logs.count_kinds, logs.all_ends):
            self.assertEqual(self.raised(InvalidCells, call, 17, many).cells, 17)
            self.assertEqual(self.raised(InvalidWeb, call, 16, many + [(1, 2)]).index, 20)
        self.assertEqual(self.raised(InvalidCells, logs.count_of_kind, 17, many).cells, 17)
        self.assertEqual(self.raised(InvalidLog, logs.count_of_kind, 16, many + [(1, 2)]).index, 20)

    def test_the_other_functions_take_all_exchanges(self):
        every = all_exchanges(16)
        for call in ALL_CALLS:
            if call not in MOST:
                begun = time.monotonic()
                call(16, every)
                self.assertLess(time.monotonic() - begun, 5)

    def test_as_many_as_may_be_end_within_seconds(self):
        # All exchanges at one cell, and exchanges that have hardly a cell in common.
        star = [(1, cell) for cell in range(2, 17)]
        apart = [(cell, cell + 8) for cell in range(1, 9)] + [(15, 16)]
        for call, most in MOST.items():
            for web in (star[:most], apart[:most], all_exchanges(5)[:most]):
                begun = time.monotonic()
                call(16, web)
                self.assertLess(time.monotonic() - begun, 5)


class ResultsTest(ArgumentsTest):
    SOME = [(1, []), (4, []), (3, [(1, 2), (2, 3)]), (4, [(1, 2), (1, 3), (2, 3)]), (6, [(1, 2), (3, 5), (4, 6)]),
            (5, [(1, 2), (1, 3), (2, 3), (3, 4), (4, 5)]), (16, [(1, 16), (2, 15)])]

    def test_arguments_are_not_changed(self):
        for call in ALL_CALLS:
            for cells, web in self.SOME:
                passed = copy.deepcopy(web)
                call(cells, passed)
                self.assertEqual(passed, web)

    def test_arguments_are_not_changed_by_an_error(self):
        for call in ALL_CALLS:
            passed = [(1, 2), (3, 4), [1, 2]]
            with self.assertRaises(ValueError):
                call(4, passed)
            self.assertEqual(passed, [(1, 2), (3, 4), [1, 2]])

    def test_two_logs_are_not_changed(self):
        log, other = [(2, 3), (1, 2)], [(1, 2), (2, 3)]
        logs.are_one_kind(3, log, other)
        self.assertEqual((log, other), ([(2, 3), (1, 2)], [(1, 2), (2, 3)]))

    def test_lists_are_new_and_none_occurs_twice(self):
        for call in ALL_CALLS:
            for cells, web in self.SOME:
                found = lists_within(call(cells, web)) + lists_within(call(cells, web)) + [web]
                self.assertEqual(len({id(one) for one in found}), len(found))

    def test_changing_a_result_changes_nothing_else(self):
        for call in ALL_CALLS:
            for cells, web in self.SOME:
                passed = copy.deepcopy(web)
                first = call(cells, passed)
                kept = copy.deepcopy(first)
                for one in lists_within(first):
                    one.clear()
                self.assertEqual(passed, web)
                self.assertEqual(call(cells, passed), kept)

    def test_kinds_of_results(self):
        self.assertIs(type(webs.round_bounds(3, [(1, 2)])), tuple)
        self.assertIs(webs.is_tree(2, [(1, 2)]), True)
        self.assertIs(webs.is_tree(2, []), False)
        self.assertIs(logs.are_one_kind(2, [], []), True)
        self.assertIs(logs.are_one_kind(2, [(1, 2)], []), False)
        for pair in logs.met(3, [(1, 2), (2, 3)]) + logs.faces(3, [(1, 2), (2, 3)])[0]:
            self.assertIs(type(pair), tuple)
        for one in logs.all_ends(3, [(1, 2), (2, 3)]):
            self.assertIs(type(one), list)


if __name__ == "__main__":
    unittest.main()
