"""Point 27: rings, held against all logs of rings of three to seven cells."""

import copy
import inspect
import time
import unittest
from itertools import combinations, permutations

from unnoted import rings
from unnoted.errors import InvalidAhead, InvalidCells, InvalidEnds
from unnoted.rings import aheads, count_ring_ends, ring_ends, ring_web
from tests.reference import all_logs, ends_by_walking, has_ring, order_at
from tests.test_arguments import NO_LISTS, WRONG_CELLS, ArgumentsTest, lists_within

CALLS = [(ring_web, []), (ring_ends, [[1]]), (aheads, [[2, 3, 1]]), (count_ring_ends, [])]
NO_CELLS = [0, -1, 6, 17, 10 ** 19, True, False, None, 1.0, 2.5, "1", b"1", "", [1], (1,), (1, 2), {}, {1}, 1 + 0j, int]


def next_cell(cells, cell):
    """The next cell in the ring."""
    return cell % cells + 1


def all_aheads(cells):
    """All lists of cells, neither none nor all, ascending."""
    return [list(row) for many in range(1, cells) for row in combinations(range(1, cells + 1), many)]


def ahead_in(cells, log):
    """The cells that have their exchange with the next cell ahead of that with the one before."""
    return [cell for cell in range(1, cells + 1) if order_at(log, cell)[0] == next_cell(cells, cell)]


def ends_by_turning(cells, ahead):
    """The ends, for each cell gone on or back until there is a cell of the same kind."""
    found = []
    for cell in range(1, cells + 1):
        step = 1 if cell in ahead else -1
        end = (cell - 1 + step) % cells + 1
        while (end in ahead) != (cell in ahead):
            end = (end - 1 + step) % cells + 1
        found.append(end)
    return found


LOGS = [(cells, log) for cells in range(3, 7) for log in all_logs(ring_web(cells))]


class RingTest(ArgumentsTest):
    def test_web(self):
        self.assertEqual(ring_web(3), [(1, 2), (1, 3), (2, 3)])
        self.assertEqual(ring_web(4), [(1, 2), (1, 4), (2, 3), (3, 4)])
        for cells in range(3, 17):
            wanted = {tuple(sorted((cell, next_cell(cells, cell)))) for cell in range(1, cells + 1)}
            self.assertEqual(ring_web(cells), sorted(wanted))
            self.assertTrue(all(type(exchange) is tuple for exchange in ring_web(cells)))
            self.assertTrue(cells > 7 or has_ring(ring_web(cells)))

    def test_all_logs(self):
        for cells, log in LOGS:
            self.assertEqual(ring_ends(cells, ahead_in(cells, log)), ends_by_walking(cells, log))

    def test_some_cells_are_ahead_neither_none_nor_all(self):
        for cells in range(3, 7):
            there = {tuple(ahead_in(cells, log)) for others, log in LOGS if cells == others}
            self.assertEqual(sorted(there), sorted(tuple(row) for row in all_aheads(cells)))

    def test_number_of_outcomes(self):
        for cells in range(3, 7):
            outcomes = {tuple(ends_by_walking(cells, log)) for others, log in LOGS if cells == others}
            self.assertEqual(count_ring_ends(cells), len(outcomes))
        for cells in range(3, 13):
            outcomes = {tuple(ends_by_turning(cells, row)) for row in all_aheads(cells)}
            self.assertEqual(count_ring_ends(cells), len(outcomes))
        self.assertEqual([count_ring_ends(cells) for cells in range(3, 8)], [3, 11, 30, 62, 126])
        self.assertEqual(count_ring_ends(16), 65534)
        self.assertIs(type(count_ring_ends(16)), int)

    def test_all_lists_that_give_an_arrangement(self):
        for cells in range(3, 7):
            for row in permutations(range(1, cells + 1)):
                ends = list(row)
                wanted = [ahead for ahead in all_aheads(cells) if ends_by_turning(cells, ahead) == ends]
                self.assertEqual(aheads(cells, ends), sorted(wanted))

    def test_an_arrangement_that_is_no_outcome(self):
        self.assertEqual(aheads(3, [1, 2, 3]), [])
        self.assertEqual(aheads(3, [2, 3, 1]), [])
        self.assertEqual(aheads(5, [3, 4, 2, 1, 5]), [])
        self.assertEqual(aheads(5, [2, 1, 4, 3, 5]), [])
        self.assertEqual(aheads(16, list(range(1, 17))), [])
        self.assertEqual(aheads(16, list(range(2, 17)) + [1]), [])

    def test_two_lists_that_give_the_same(self):
        self.assertEqual(aheads(3, [2, 1, 3]), [[1, 2], [3]])
        self.assertEqual(aheads(3, [1, 3, 2]), [[1], [2, 3]])
        self.assertEqual(aheads(4, [3, 4, 1, 2]), [[1, 3], [2, 4]])
        self.assertEqual(aheads(4, [2, 3, 1, 4]), [[1, 2, 3]])

    def test_greater_rings(self):
        for cells in (8, 15, 16):
            for ahead in all_aheads(cells)[::97]:
                ends = ring_ends(cells, ahead)
                self.assertEqual(ends, ends_by_turning(cells, ahead))
                self.assertEqual(aheads(cells, ends), [ahead])
                rest = [cell for cell in range(1, cells + 1) if cell not in ahead]
                back = [ends.index(cell) + 1 for cell in range(1, cells + 1)]
                self.assertEqual(aheads(cells, back), [rest])

    def test_greatest_rings_end_within_seconds(self):
        begun = time.monotonic()
        for ahead in all_aheads(16)[::13]:
            aheads(16, ring_ends(16, ahead))
        ring_web(16)
        count_ring_ends(16)
        self.assertLess(time.monotonic() - begun, 5)


class RingArgumentsTest(ArgumentsTest):
    def test_parameters(self):
        told = {ring_web: ["cells"], ring_ends: ["cells", "ahead"], aheads: ["cells", "ends"],
                count_ring_ends: ["cells"]}
        for function, names in told.items():
            self.assertEqual(list(inspect.signature(function).parameters), names)
            self.assertEqual(function.__module__, "unnoted.rings")

    def test_by_name_as_by_position(self):
        self.assertEqual(ring_web(cells=5), ring_web(5))
        self.assertEqual(ring_ends(ahead=[1, 2, 4], cells=5), [2, 4, 5, 1, 3])
        self.assertEqual(aheads(ends=[2, 1, 4, 3], cells=4), [[1, 2], [3, 4]])
        self.assertEqual(count_ring_ends(cells=6), 62)

    def test_wrong_numbers_of_cells(self):
        for call, others in CALLS:
            for cells in WRONG_CELLS + [1, 2]:
                self.assertIs(self.raised(InvalidCells, call, cells, *others).cells, cells)

    def test_three_to_sixteen_cells(self):
        for cells in range(3, 17):
            for call, others in CALLS[:2] + CALLS[3:]:
                call(cells, *others)
            aheads(cells, list(range(1, cells + 1)))

    def test_cells_come_ahead_of_all_else(self):
        for wrong in (None, [], [None], [1, 1]):
            for cells in (0, 2, 17, True, None):
                self.assertIs(self.raised(InvalidCells, ring_ends, cells, wrong).cells, cells)
                self.assertIs(self.raised(InvalidCells, aheads, cells, wrong).cells, cells)

    def test_ahead_is_a_list_of_some_cells(self):
        for ahead in NO_LISTS + [(1,), (1, 2), "1", {1}, {1: 1}]:
            self.assertIsNone(self.raised(InvalidAhead, ring_ends, 5, ahead).index)
        for cells in range(3, 17):
            every = list(range(1, cells + 1))
            for ahead in ([], every, every + [1], [None] * cells, [0] * cells, every * 2):
                self.assertIsNone(self.raised(InvalidAhead, ring_ends, cells, ahead).index)
            ring_ends(cells, every[1:])
            ring_ends(cells, every[:1])

    def test_a_thing_that_is_no_cell(self):
        for thing in NO_CELLS:
            for ahead in ([thing], [thing, 2], [1, thing], [1, 2, thing], [1, thing, 3], [1, thing, 0, None]):
                index = [one is thing for one in ahead].index(True)
                self.assertEqual(self.raised(InvalidAhead, ring_ends, 5, ahead).index, index)

    def test_a_cell_that_is_not_greater_than_the_one_before(self):
        for ahead, index in (([1, 1], 1), ([2, 1], 1), ([1, 3, 2], 2), ([1, 3, 3, 4], 2), ([2, 1, 1, None], 1),
                             ([1, 2, 4, 3], 3)):
            self.assertEqual(self.raised(InvalidAhead, ring_ends, 5, ahead).index, index)
        self.assertEqual(self.raised(InvalidAhead, ring_ends, 3, [2, 2]).index, 1)
        self.assertEqual(self.raised(InvalidAhead, ring_ends, 16, [1, 2, 17]).index, 2)

    def test_no_arrangement(self):
        for ends in NO_LISTS + [[], [1, 2, 3], [1, 2, 3, 4, 5], [None] * 5, (1, 2, 3, 4)]:
            self.assertIsNone(self.raised(InvalidEnds, aheads, 4, ends).index)
        for thing in [5] + NO_CELLS:
            self.assertEqual(self.raised(InvalidEnds, aheads, 4, [2, 1, thing, 3]).index, 2)
            self.assertEqual(self.raised(InvalidEnds, aheads, 4, [thing, 1, 1, 3]).index, 0)
        self.assertEqual(self.raised(InvalidEnds, aheads, 4, [2, 1, 2, None]).index, 2)
        self.assertEqual(self.raised(InvalidEnds, aheads, 4, [2, 1, None, 2]).index, 2)

    def test_arguments_are_not_changed(self):
        for call, cells, thing in ((ring_ends, 5, [1, 2, 4]), (aheads, 4, [2, 1, 4, 3]), (aheads, 4, [1, 2, 3, 4])):
            passed = copy.deepcopy(thing)
            call(cells, passed)
            self.assertEqual(passed, thing)
        for call, kind, thing in ((ring_ends, InvalidAhead, [1, 4, 2, 3]), (aheads, InvalidEnds, [2, 1, 3, 3, 4])):
            passed = copy.deepcopy(thing)
            self.raised(kind, call, 5, passed)
            self.assertEqual(passed, thing)

    def test_lists_are_new(self):
        for call in (lambda: ring_web(5), lambda: ring_ends(5, [1, 2, 4]), lambda: aheads(4, [2, 1, 4, 3])):
            first = call()
            kept = copy.deepcopy(first)
            found = lists_within(first) + lists_within(call())
            self.assertEqual(len({id(one) for one in found}), len(found))
            for one in lists_within(first):
                one.clear()
            self.assertEqual(call(), kept)
        ahead, ends = [1, 2, 4], [2, 1, 4, 3]
        ring_ends(5, ahead).clear()
        self.assertEqual(ahead, [1, 2, 4])
        self.assertNotIn(id(ends), [id(one) for one in aheads(4, ends)])

    def test_they_are_in_the_file_of_the_interface(self):
        self.assertLessEqual({"ring_web", "ring_ends", "aheads", "count_ring_ends"}, set(vars(rings)))


if __name__ == "__main__":
    unittest.main()
