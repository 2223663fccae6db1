"""Single logs: edges, large logs, and numbers that are known from elsewhere."""

import unittest
from itertools import combinations
from math import factorial

from unnoted.logs import (all_ends, are_one_kind, count_kinds, count_of_kind, ends, faces, met, orders, turns,
                          ways)
from tests.reference import (all_exchanges, all_logs, ends_by_walking, following, kind_by_swaps,
                             kinds_by_parts, orders_by_cell, rounds_by_steps, way_of)

STILL = list(range(1, 17))
# A log of all exchanges of 16 cells in an order without a plain pattern (77 and 120 have no common divisor).
LONG = [all_exchanges(16)[(at * 77 + 5) % 120] for at in range(120)]


class NoExchangesTest(unittest.TestCase):
    def test_one_cell(self):
        self.assertEqual((ends(1, []), ways(1, []), orders(1, [])), ([1], [[1]], [[]]))
        self.assertEqual((faces(1, []), met(1, []), turns(1, [])), ([], [], []))
        self.assertEqual((count_kinds(1, []), count_of_kind(1, []), all_ends(1, [])), (1, 1, [[1]]))
        self.assertIs(are_one_kind(1, [], []), True)

    def test_sixteen_cells(self):
        self.assertEqual(ends(16, []), STILL)
        self.assertEqual(ways(16, []), [[cell] for cell in STILL])
        self.assertEqual(orders(16, []), [[] for _ in STILL])
        self.assertEqual((faces(16, []), met(16, []), turns(16, [])), ([], [], []))
        self.assertEqual((count_kinds(16, []), count_of_kind(16, []), all_ends(16, [])), (1, 1, [STILL]))

    def test_cells_without_exchanges_beside_others(self):
        log = [(3, 5)]
        self.assertEqual(ends(6, log), [1, 2, 5, 4, 3, 6])
        self.assertEqual(ways(6, log), [[1], [2], [3, 5], [4], [5, 3], [6]])
        self.assertEqual(orders(6, log), [[], [], [5], [], [3], []])
        self.assertEqual(faces(6, log), [[(3, 5), (5, 3)]])
        self.assertEqual(all_ends(6, log), [[1, 2, 5, 4, 3, 6]])


class OneLogTest(unittest.TestCase):
    def test_a_chain(self):
        log = [(1, 2), (2, 3), (3, 4)]
        self.assertEqual(ends(4, log), [4, 1, 2, 3])
        self.assertEqual(ways(4, log), [[1, 2, 3, 4], [2, 1], [3, 2], [4, 3]])
        self.assertEqual(orders(4, log), [[2], [1, 3], [2, 4], [3]])
        self.assertEqual(met(4, log), [(1, 2), (1, 3), (1, 4)])
        self.assertEqual(turns(4, log), [1, 2, 3])

    def test_faces_begin_with_the_least_cell_of_their_round(self):
        log = [(2, 4), (1, 5), (3, 4), (2, 3), (1, 6), (5, 6)]
        self.assertEqual(ends(6, log), [6, 2, 4, 3, 5, 1])
        self.assertEqual(faces(6, log), [
            [(1, 5), (5, 6), (6, 1)],
            [(2, 4), (4, 3), (3, 2)],
            [(3, 4), (4, 2), (2, 3)],
            [(5, 1), (1, 6), (6, 5)],
        ])

    def test_faces_of_a_round_whose_least_cell_does_not_come_first_in_the_log(self):
        log = [(4, 5), (3, 4), (2, 5)]
        self.assertEqual(ends(5, log), [1, 5, 4, 2, 3])
        self.assertEqual(faces(5, log), [[(2, 5), (5, 4), (4, 3), (3, 4), (4, 5), (5, 2)]])


class LongLogTest(unittest.TestCase):
    def test_it_is_a_log_of_all_exchanges(self):
        self.assertEqual(sorted(LONG), all_exchanges(16))

    def test_ends_ways_and_orders(self):
        self.assertEqual(ends(16, LONG), ends_by_walking(16, LONG))
        self.assertEqual(ways(16, LONG), [way_of(LONG, thing) for thing in STILL])
        self.assertEqual(orders(16, LONG), orders_by_cell(16, LONG))

    def test_faces(self):
        found = faces(16, LONG)
        firsts = [row[0] for row in rounds_by_steps(ends_by_walking(16, LONG))]
        self.assertEqual([face[0] for face in found], [(cell, way_of(LONG, cell)[1]) for cell in firsts])
        follows = following(16, LONG)
        for face in found:
            self.assertEqual(face[1:] + face[:1], [follows[half] for half in face])
        halves = [half for face in found for half in face]
        self.assertEqual(sorted(halves), sorted(LONG + [(second, first) for first, second in LONG]))

    def test_met(self):
        for at, pair in enumerate(met(16, LONG)):
            there = [thing for thing in STILL if way_of(LONG[:at], thing)[-1] in LONG[at]]
            self.assertEqual(pair, tuple(there))

    def test_turns(self):
        wanted = []
        for at, exchange in enumerate(LONG):
            before = [wanted[other] for other in range(at) if set(LONG[other]) & set(exchange)]
            wanted.append(max(before, default=0) + 1)
        self.assertEqual(turns(16, LONG), wanted)

    def test_one_kind(self):
        touching = [at for at in range(119) if set(LONG[at]) & set(LONG[at + 1])]
        for at in range(119):
            other = LONG[:at] + [LONG[at + 1], LONG[at]] + LONG[at + 2:]
            self.assertIs(are_one_kind(16, LONG, other), at not in touching)


class KindsTest(unittest.TestCase):
    def test_logs_of_different_webs(self):
        self.assertIs(are_one_kind(4, [(1, 2)], []), False)
        self.assertIs(are_one_kind(4, [(1, 2)], [(3, 4)]), False)
        self.assertIs(are_one_kind(4, [(1, 2)], [(1, 2), (3, 4)]), False)
        self.assertIs(are_one_kind(4, [(3, 4), (1, 2)], [(1, 2), (3, 4)]), True)
        self.assertIs(are_one_kind(4, [(2, 3), (1, 2)], [(1, 2), (2, 3)]), False)

    def test_all_exchanges_at_one_cell(self):
        for many in range(11):
            web = [(1, cell) for cell in range(2, many + 2)]
            self.assertEqual(count_kinds(16, web), factorial(many))
            self.assertEqual(count_of_kind(16, web), 1)

    def test_no_cell_in_common(self):
        for many in range(9):
            web = [(cell, cell + 8) for cell in range(1, many + 1)]
            self.assertEqual(count_kinds(16, web), 1)
            self.assertEqual(count_of_kind(16, web), factorial(many))

    def test_paths_and_rings(self):
        # Each two neighbouring exchanges of a path can be made in either order; of a ring not all the same way round.
        for many in range(1, 11):
            self.assertEqual(count_kinds(16, [(cell, cell + 1) for cell in range(1, many + 1)]), 2 ** (many - 1))
        for many in range(3, 11):
            ring = sorted([(cell, cell + 1) for cell in range(1, many)] + [(1, many)])
            self.assertEqual(count_kinds(16, ring), 2 ** many - 2)

    def test_kinds_of_ten_exchanges_by_another_sum(self):
        prism = [(1, 2), (1, 3), (1, 4), (2, 3), (2, 5), (3, 6), (4, 5), (4, 6), (5, 6)]
        three_and_three = [(first, second) for first in (1, 2, 3) for second in (4, 5, 6)]
        cells_apart = [(1, 16), (2, 3), (2, 16), (4, 9), (4, 16), (5, 9), (7, 8), (7, 9), (8, 9), (10, 11)]
        for web in (all_exchanges(5), all_exchanges(4), prism, prism + [(7, 8)], three_and_three, cells_apart):
            self.assertEqual(count_kinds(16, web), kinds_by_parts(web))

    def test_ten_exchanges_of_six_cells(self):
        web = [(1, 2), (1, 3), (1, 4), (1, 5), (1, 6), (2, 3), (2, 4), (2, 5), (2, 6), (3, 4)]
        self.assertEqual(count_kinds(6, web), 325800)
        self.assertEqual(count_kinds(6, web), kinds_by_parts(web))

    def test_logs_of_a_kind_of_ten_exchanges(self):
        # The orders of ten things that are greater and less by turns are the Euler number 50521.
        path = [(cell, cell + 1) for cell in range(1, 11)]
        self.assertEqual(count_of_kind(11, path[::2] + path[1::2]), 50521)
        self.assertEqual(count_of_kind(11, path), 1)
        self.assertEqual(count_of_kind(11, path[::-1]), 1)
        for log in (all_exchanges(5), all_exchanges(5)[::-1], all_exchanges(5)[::3] + all_exchanges(5)[1::3]):
            self.assertEqual(count_of_kind(5, log), len(kind_by_swaps(log)))


class AllEndsTest(unittest.TestCase):
    def test_six_exchanges(self):
        webs = [all_exchanges(4), [(1, 2), (1, 6), (2, 3), (3, 4), (4, 5), (5, 6)],
                [(1, 2), (2, 3), (2, 4), (4, 5), (4, 6), (6, 7)], [(1, 9), (2, 16), (3, 9), (3, 16), (9, 16), (10, 11)]]
        for web in webs:
            cells = max([second for _, second in web])
            wanted = {tuple(ends_by_walking(cells, log)) for log in all_logs(web)}
            self.assertEqual(all_ends(cells, web), [list(one) for one in sorted(wanted)])

    def test_a_star_gives_all_rounds_of_all_cells(self):
        found = all_ends(7, [(1, cell) for cell in range(2, 8)])
        self.assertEqual(len(found), factorial(6))
        self.assertTrue(all(len(rounds_by_steps(one)) == 1 for one in found))

    def test_a_ring_of_six(self):
        self.assertEqual(len(all_ends(6, [(1, 2), (1, 6), (2, 3), (3, 4), (4, 5), (5, 6)])), 62)

    def test_exchanges_apart_have_one_outcome(self):
        web = [(cell, cell + 6) for cell in range(1, 7)]
        self.assertEqual(all_ends(13, web), [[7, 8, 9, 10, 11, 12, 1, 2, 3, 4, 5, 6, 13]])

    def test_all_webs_of_four_exchanges_of_five_cells(self):
        for web in combinations(all_exchanges(5), 4):
            wanted = {tuple(ends_by_walking(5, log)) for log in all_logs(web)}
            self.assertEqual(all_ends(5, list(web)), [list(one) for one in sorted(wanted)])


if __name__ == "__main__":
    unittest.main()
