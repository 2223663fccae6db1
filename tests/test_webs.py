import unittest

from unnoted.webs import bridges, is_tree, pieces, round_bounds
from tests.reference import (MORE_WEBS, all_exchanges, all_webs, bridges_by_reach, has_ring, pieces_by_reach,
                             small_webs)

PATH = [(cell, cell + 1) for cell in range(1, 16)]
RING = [(1, 2), (1, 16)] + PATH[1:]


def bounds_by_trying(cells, web):
    """The bounds, by trying all numbers of rounds of each piece against the words of the document."""
    least, greatest = 0, 0
    for piece in pieces_by_reach(cells, web):
        many = len(piece)
        spare = len([exchange for exchange in web if set(exchange) <= piece]) - many
        tried = [number for number in range(1, many + 1)
                 if number <= spare + 2 and (number % 2 == 0) == (spare % 2 == 0)]
        least, greatest = least + min(tried), greatest + max(tried)
    return least, greatest


class PiecesTest(unittest.TestCase):
    def test_edges(self):
        self.assertEqual(pieces(1, []), [[1]])
        self.assertEqual(pieces(2, []), [[1], [2]])
        self.assertEqual(pieces(16, []), [[cell] for cell in range(1, 17)])
        self.assertEqual(pieces(16, PATH), [list(range(1, 17))])
        self.assertEqual(pieces(16, all_exchanges(16)), [list(range(1, 17))])

    def test_order_of_pieces_and_cells(self):
        self.assertEqual(pieces(6, [(1, 6), (2, 5), (3, 6)]), [[1, 3, 6], [2, 5], [4]])
        self.assertEqual(pieces(6, [(2, 6), (3, 4), (4, 6)]), [[1], [2, 3, 4, 6], [5]])
        self.assertEqual(pieces(16, [(1, 16), (2, 15)]), [[1, 16], [2, 15]] + [[cell] for cell in range(3, 15)])

    def test_all_small_webs(self):
        for cells in range(1, 6):
            for web in all_webs(cells):
                self.assertEqual(pieces(cells, web), [sorted(piece) for piece in pieces_by_reach(cells, web)])


class BridgesTest(unittest.TestCase):
    def test_edges(self):
        self.assertEqual(bridges(1, []), [])
        self.assertEqual(bridges(16, []), [])
        self.assertEqual(bridges(2, [(1, 2)]), [(1, 2)])
        self.assertEqual(bridges(16, PATH), PATH)
        self.assertEqual(bridges(16, RING), [])
        self.assertEqual(bridges(16, all_exchanges(16)), [])

    def test_between_rings_and_in_other_pieces(self):
        two_rings = [(1, 2), (1, 3), (2, 3), (3, 4), (4, 5), (4, 6), (5, 6)]
        self.assertEqual(bridges(6, two_rings), [(3, 4)])
        self.assertEqual(bridges(9, two_rings + [(7, 9)]), [(3, 4), (7, 9)])

    def test_many_exchanges_and_a_bridge(self):
        self.assertEqual(bridges(16, all_exchanges(15) + [(15, 16)]), [(15, 16)])
        web = sorted([(first + 1, second + 1) for first, second in all_exchanges(15)] + [(1, 9)])
        self.assertEqual(len(web), 106)
        self.assertEqual(bridges(16, web), [(1, 9)])

    def test_great_webs(self):
        for step in range(1, 40):
            web = all_exchanges(16)[step % 5::step]
            self.assertEqual(bridges(16, web), bridges_by_reach(16, web))

    def test_all_small_webs(self):
        for cells in range(1, 6):
            for web in all_webs(cells):
                self.assertEqual(bridges(cells, web), bridges_by_reach(cells, web))


class IsTreeTest(unittest.TestCase):
    def test_edges(self):
        self.assertIs(is_tree(1, []), True)
        self.assertIs(is_tree(2, []), False)
        self.assertIs(is_tree(2, [(1, 2)]), True)
        self.assertIs(is_tree(3, [(1, 2)]), False)
        self.assertIs(is_tree(16, PATH), True)
        self.assertIs(is_tree(16, [(1, cell) for cell in range(2, 17)]), True)
        self.assertIs(is_tree(16, PATH[:-1]), False)
        self.assertIs(is_tree(16, RING), False)
        self.assertIs(is_tree(16, all_exchanges(16)), False)

    def test_as_many_exchanges_as_a_tree_but_a_ring(self):
        self.assertIs(is_tree(4, [(1, 2), (1, 3), (2, 3)]), False)

    def test_all_small_webs(self):
        for cells in range(1, 6):
            for web in all_webs(cells):
                wanted = len(pieces_by_reach(cells, web)) == 1 and not has_ring(web)
                self.assertIs(is_tree(cells, web), wanted)

    def test_a_tree_is_one_piece_of_bridges(self):
        for cells, web in small_webs():
            wanted = len(pieces(cells, web)) == 1 and bridges(cells, web) == web
            self.assertIs(is_tree(cells, web), wanted)


class RoundBoundsTest(unittest.TestCase):
    def test_edges(self):
        self.assertEqual(round_bounds(1, []), (1, 1))
        self.assertEqual(round_bounds(16, []), (16, 16))
        self.assertEqual(round_bounds(16, PATH), (1, 1))
        self.assertEqual(round_bounds(16, RING), (2, 2))

    def test_never_more_rounds_than_cells(self):
        # Here e - v + 2 is far beyond v: 106 for 16 cells, 92 for 15, 5 and 4 for the last ones.
        self.assertEqual(round_bounds(16, all_exchanges(16)), (2, 16))
        self.assertEqual(round_bounds(15, all_exchanges(15)), (2, 14))
        self.assertEqual(round_bounds(16, all_exchanges(15)), (3, 15))
        self.assertEqual(round_bounds(5, all_exchanges(5)), (1, 5))
        self.assertEqual(round_bounds(4, all_exchanges(4)), (2, 4))
        self.assertEqual(round_bounds(4, all_exchanges(4)[1:]), (1, 3))

    def test_several_pieces_are_added_up(self):
        self.assertEqual(round_bounds(7, [(1, 2), (1, 3), (1, 4), (2, 3), (2, 4), (3, 4), (5, 6)]), (4, 6))
        self.assertEqual(round_bounds(6, [(1, 2), (1, 3), (2, 3), (3, 4), (4, 5), (4, 6), (5, 6)]), (1, 3))

    def test_small_webs(self):
        for cells in range(1, 6):
            for web in all_webs(cells):
                self.assertEqual(round_bounds(cells, web), bounds_by_trying(cells, web))
        for cells, web in MORE_WEBS:
            self.assertEqual(round_bounds(cells, web), bounds_by_trying(cells, web))


if __name__ == "__main__":
    unittest.main()
