"""Point 14: where a thing can end, held against all logs of small webs, and logs for great ones."""

import time
import unittest

from unnoted.errors import NoLog
from unnoted.reach import can_end, log_ending
from tests.reference import (all_exchanges, all_trees, all_webs, ends_by_walking, has_ring, order_at, outcomes,
                             reached, small_webs, some_tree, way_of)

PATH = [(cell, cell + 1) for cell in range(1, 16)]
RING = [(1, 2), (1, 16)] + PATH[1:]
STAR = [(1, cell) for cell in range(2, 17)]
EVERY = all_exchanges(16)
TWO_RINGS = [(1, 2), (1, 3), (2, 3), (3, 4), (4, 5), (5, 6), (5, 7), (6, 7)]
# Rings that have a cell, or an exchange, in common; a ring with a tail; pieces beside one another.
SOME_WEBS = [
    (7, TWO_RINGS),
    (5, [(1, 2), (1, 3), (2, 3), (3, 4), (3, 5), (4, 5)]),
    (4, [(1, 2), (1, 3), (2, 3), (2, 4), (3, 4)]),
    (16, PATH), (16, RING), (16, STAR), (16, EVERY), (16, []), (16, EVERY[15:]), (16, EVERY[:-1]), (16, EVERY[::7]),
    (16, [(first, second) for first, second in EVERY if (first <= 8) == (second <= 8)]),
    (16, [(first, second) for first, second in EVERY if (first <= 8) != (second <= 8)]),
    (16, sorted(RING + [(1, 9), (4, 12)])),
    (16, sorted(STAR[:5] + [(2, 3), (4, 5), (9, 10), (10, 11), (9, 11), (11, 12)])),
] + [(16, some_tree(16, number)) for number in range(20)]


def is_on_ring(web, cell):
    """Whether a cell is on a ring: two of its exchanges lead to one another without it."""
    others = order_at(web, cell)
    rest = [exchange for exchange in web if cell not in exchange]
    cells = max([second for _, second in web], default=1)
    return any(other in reached(cells, rest, one) for one in others for other in others if one != other)


class LogTest(unittest.TestCase):
    def check_log(self, cells, web, cell, end):
        log = log_ending(cells, web, cell, end)
        self.assertIs(type(log), list)
        self.assertEqual(sorted(log), web)
        self.assertTrue(all(type(exchange) is tuple for exchange in log))
        self.assertEqual(way_of(log, cell)[-1], end)

    def check_web(self, cells, web, reaching):
        """Hold both functions for all cells of a web against a set of tuples of a cell and an end."""
        for cell in range(1, cells + 1):
            for end in range(1, cells + 1):
                self.assertIs(can_end(cells, web, cell, end), (cell, end) in reaching, (web, cell, end))
                if (cell, end) in reaching:
                    self.check_log(cells, web, cell, end)
                else:
                    with self.assertRaises(NoLog) as caught:
                        log_ending(cells, web, cell, end)
                    self.assertIs(type(caught.exception), NoLog)

    def by_words(self, cells, web):
        """The tuples of a cell and an end of which the document says that the thing from the cell can end there."""
        reaching = {(cell, end) for cell in range(1, cells + 1) for end in reached(cells, web, cell) if cell != end}
        alone = {(cell, cell) for cell in range(1, cells + 1) if not order_at(web, cell)}
        return reaching | alone | {(cell, cell) for cell in range(1, cells + 1) if is_on_ring(web, cell)}

    def test_all_logs_of_small_webs(self):
        for cells, web in small_webs():
            rows = outcomes(cells, web)
            reaching = {(cell, row[cell - 1]) for row in rows for cell in range(1, cells + 1)}
            self.assertEqual(self.by_words(cells, web), reaching)
            self.check_web(cells, web, reaching)

    def test_all_logs_of_webs_of_five_cells(self):
        for web in all_webs(5):
            if len(web) in (3, 4, 5):
                rows = outcomes(5, web)
                self.check_web(5, web, {(cell, row[cell - 1]) for row in rows for cell in range(1, 6)})

    def test_all_webs_of_five_cells_by_the_words(self):
        for web in all_webs(5):
            self.check_web(5, web, self.by_words(5, web))

    def test_great_webs_by_the_words(self):
        begun = time.monotonic()
        for cells, web in SOME_WEBS:
            self.check_web(cells, web, self.by_words(cells, web))
        self.assertLess(time.monotonic() - begun, 60)

    def test_each_call_ends_within_seconds(self):
        begun = time.monotonic()
        self.assertIs(can_end(16, EVERY, 7, 7), True)
        self.assertIs(can_end(16, EVERY, 16, 1), True)
        self.check_log(16, EVERY, 7, 7)
        self.check_log(16, EVERY, 16, 1)
        self.assertLess(time.monotonic() - begun, 5)


class EdgesTest(unittest.TestCase):
    def test_one_cell(self):
        self.assertIs(can_end(1, [], 1, 1), True)
        self.assertEqual(log_ending(1, [], 1, 1), [])

    def test_two_cells(self):
        self.assertIs(can_end(2, [(1, 2)], 1, 2), True)
        self.assertIs(can_end(2, [(1, 2)], 2, 2), False)
        self.assertIs(can_end(2, [], 1, 2), False)
        self.assertIs(can_end(2, [], 2, 2), True)
        self.assertEqual(log_ending(2, [(1, 2)], 2, 1), [(1, 2)])

    def test_a_cell_without_exchanges_beside_others(self):
        web = [(1, 2), (1, 3), (2, 3)]
        self.assertIs(can_end(5, web, 4, 4), True)
        self.assertIs(can_end(5, web, 4, 5), False)
        self.assertIs(can_end(5, web, 1, 4), False)
        self.assertEqual(sorted(log_ending(5, web, 5, 5)), web)

    def test_a_cell_on_no_ring_between_rings(self):
        # The cell 4 has only bridges.
        self.assertIs(can_end(7, TWO_RINGS, 4, 4), False)
        self.assertIs(can_end(7, TWO_RINGS, 3, 3), True)
        self.assertIs(can_end(7, TWO_RINGS, 1, 7), True)

    def test_trees_have_no_ring(self):
        for cells in range(2, 6):
            for web in all_trees(cells):
                self.assertFalse(has_ring(web))
                for cell in range(1, cells + 1):
                    self.assertEqual([can_end(cells, web, cell, end) for end in range(1, cells + 1)],
                                     [end != cell for end in range(1, cells + 1)])

    def test_the_log_may_be_changed(self):
        web = [(1, 2), (2, 3)]
        log = log_ending(3, web, 1, 3)
        log.clear()
        self.assertEqual(web, [(1, 2), (2, 3)])
        self.assertEqual(ends_by_walking(3, log_ending(3, web, 1, 3))[0], 3)


if __name__ == "__main__":
    unittest.main()
