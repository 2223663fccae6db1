"""Points 25 and 26: telling nights, parting, and who met whom, held against all logs of all trees of up to five cells."""

import time
import unittest
from itertools import combinations

from unnoted.errors import Unfit
from unnoted.nights import meetings, parting, telling_nights, web_by_meetings
from unnoted.splits import alike_webs
from tests.reference import (all_logs, all_trees, common_stretches, ends_by_walking, fits_night, has_ring, is_stretch,
                             order_at, outcomes, pairs_of_sides, pairs_that_meet, reached, rounds_by_steps,
                             rounds_of_all, sides_by_reach, some_tree)
from tests.test_arguments import ArgumentsTest

OF_CELLS = {cells: all_trees(cells) for cells in range(1, 6)}
TREES = [(cells, web) for cells, webs in OF_CELLS.items() for web in webs]
OUTCOMES = {(cells, tuple(web)): outcomes(cells, web) for cells, web in TREES}
PATH = [(cell, cell + 1) for cell in range(1, 16)]
STARS = [(cells, [(1, cell) for cell in range(2, cells + 1)]) for cells in range(4, 17)]
OTHER_STARS = [(cells, [(cell, cells) for cell in range(1, cells)]) for cells in range(4, 17)]
# Two cells with many exchanges and one in between, and cells with three exchanges each.
WIDE = sorted([(1, cell) for cell in range(2, 8)] + [(7, 8)] + [(8, cell) for cell in range(9, 17)])
THREES = [(1, 2), (2, 3), (2, 4), (4, 5), (4, 6), (6, 7), (6, 8), (8, 9), (8, 10), (10, 11), (10, 12), (12, 13),
          (12, 14), (14, 15), (14, 16)]
GREAT = [(16, some_tree(16, number)) for number in range(40)] + [(16, PATH), (16, WIDE), (16, THREES)]
SIX = [(6, web) for web in all_trees(6)]


def number_of_nights(cells, web):
    """The least number of nights that tell all, as the document says."""
    if cells < 4:
        return 0
    return 3 if 3 in [len(order_at(web, cell)) for cell in range(1, cells + 1)] else 2


class TellingTest(unittest.TestCase):
    def test_fewer_than_four_cells(self):
        for cells in (1, 2, 3):
            for web in OF_CELLS[cells]:
                self.assertEqual(telling_nights(cells, web), [])

    def test_their_number(self):
        for cells, web in TREES + SIX + STARS + OTHER_STARS + GREAT:
            self.assertEqual(len(telling_nights(cells, web)), number_of_nights(cells, web))
        self.assertEqual(len(telling_nights(16, PATH)), 2)
        self.assertEqual(len(telling_nights(16, THREES)), 3)

    def test_each_is_an_outcome(self):
        for cells, web in TREES:
            for ends in telling_nights(cells, web):
                self.assertIs(type(ends), list)
                self.assertIn(tuple(ends), OUTCOMES[(cells, tuple(web))])
        for cells, web in SIX + STARS + OTHER_STARS + GREAT:
            for ends in telling_nights(cells, web):
                self.assertTrue(fits_night(cells, web, ends))

    def test_only_sides_are_stretches_in_all_of_them(self):
        for cells, web in TREES + SIX + STARS + OTHER_STARS + GREAT:
            if cells >= 4:
                self.assertEqual(common_stretches(cells, telling_nights(cells, web)), sides_by_reach(cells, web))

    def test_just_those_trees_fit_whose_outcomes_take_in_all(self):
        for cells, web in TREES:
            told = {tuple(ends) for ends in telling_nights(cells, web)}
            for others, other in TREES:
                if cells == others:
                    wanted = OUTCOMES[(cells, tuple(web))] <= OUTCOMES[(cells, tuple(other))]
                    self.assertEqual(told <= OUTCOMES[(cells, tuple(other))], wanted)

    def test_fewer_nights_are_not_enough(self):
        for cells, web in TREES:
            least = number_of_nights(cells, web)
            if least:
                for rows in combinations(OUTCOMES[(cells, tuple(web))], least - 1):
                    self.assertNotEqual(common_stretches(cells, rows), sides_by_reach(cells, web))

    def test_greatest_trees_end_within_seconds(self):
        for cells, web in GREAT + STARS[-1:]:
            begun = time.monotonic()
            telling_nights(cells, web)
            parting(cells, web, PATH)
            self.assertLess(time.monotonic() - begun, 2)


class PartingTest(unittest.TestCase):
    def check(self, cells, web, other):
        """Hold parting against the words for two trees."""
        found = parting(cells, web, other)
        one, two = sides_by_reach(cells, web), sides_by_reach(cells, other)
        if one == two:
            self.assertIsNone(found)
        else:
            self.assertIs(type(found), list)
            self.assertIs(fits_night(cells, web, found), not fits_night(cells, other, found))
        return found

    def test_all_pairs_of_small_trees(self):
        for at, (cells, web) in enumerate(TREES):
            for other in OF_CELLS[cells] if cells < 5 else OF_CELLS[cells][at % 4::4]:
                found = parting(cells, web, other)
                one, two = OUTCOMES[(cells, tuple(web))], OUTCOMES[(cells, tuple(other))]
                self.assertIs(found is None, one == two)
                if found is not None:
                    self.assertIs(type(found), list)
                    self.assertIn(tuple(found), one ^ two)

    def test_trees_of_six_and_more_cells(self):
        for at in range(0, len(SIX), 7):
            self.check(6, SIX[at][1], SIX[at * 5 % len(SIX)][1])
            self.check(6, SIX[at][1], SIX[0][1])
            self.check(6, SIX[0][1], SIX[at][1])
        for at in range(len(GREAT)):
            self.check(16, GREAT[at][1], GREAT[at - 1][1])
            self.check(16, GREAT[at][1], STARS[-1][1])
            self.check(16, STARS[-1][1], GREAT[at][1])

    def test_trees_with_the_same_outcomes(self):
        for cells, web in TREES + GREAT[:10]:
            for other in alike_webs(cells, web):
                self.assertIsNone(parting(cells, web, other))
                self.assertIsNone(parting(cells, other, web))

    def test_some_telling_night_of_the_one_without_a_side(self):
        pairs = [(cells, web, other) for cells, web in TREES for other in OF_CELLS[cells][::6]]
        pairs += [(16, GREAT[at][1], GREAT[at - 1][1]) for at in range(len(GREAT))]
        for cells, web, other in pairs:
            for one, two in ((web, other), (other, web)):
                if not set(sides_by_reach(cells, one)) <= set(sides_by_reach(cells, two)):
                    self.assertFalse(all(fits_night(cells, one, ends) for ends in telling_nights(cells, two)))


class MeetingsTest(ArgumentsTest):
    def test_all_logs_of_small_trees(self):
        for cells, web in TREES:
            for log in all_logs(web):
                ends = ends_by_walking(cells, log)
                pairs = pairs_that_meet(log)
                self.assertEqual(meetings(cells, web, ends), pairs)
                self.assertEqual(web_by_meetings(cells, ends, pairs), web)

    def test_no_two_things_meet_twice_and_the_pairs_are_a_tree(self):
        for cells, web in TREES:
            for row in OUTCOMES[(cells, tuple(web))]:
                pairs = meetings(cells, web, list(row))
                self.assertEqual(len(set(pairs)), cells - 1)
                self.assertEqual(pairs, sorted(pairs))
                self.assertEqual(len(reached(cells, pairs, 1)), cells)
                self.assertFalse(has_ring(pairs))
                self.assertIn(row, OUTCOMES[(cells, tuple(pairs))])

    def test_the_pairs_that_meet_in_the_pairs_are_the_exchanges_by_their_ends(self):
        for cells, web in TREES:
            for row in OUTCOMES[(cells, tuple(web))]:
                pairs = meetings(cells, meetings(cells, web, list(row)), list(row))
                self.assertEqual(sorted(tuple(sorted((row[one - 1], row[two - 1]))) for one, two in pairs), web)

    def test_the_tree_for_all_pairs_and_outcomes(self):
        for cells, pairs in TREES:
            for row in OUTCOMES[(cells, tuple(pairs))]:
                web = web_by_meetings(cells, list(row), pairs)
                self.assertIn(row, OUTCOMES[(cells, tuple(web))])
                self.assertEqual(meetings(cells, web, list(row)), pairs)

    def test_great_trees(self):
        for cells, web in GREAT + STARS + OTHER_STARS:
            logs = [web, web[::-1], web[::2] + web[1::2], web[5:] + web[:5]]
            for log in logs:
                ends = ends_by_walking(cells, log)
                begun = time.monotonic()
                pairs = meetings(cells, web, ends)
                self.assertEqual(web_by_meetings(cells, ends, pairs), web)
                self.assertLess(time.monotonic() - begun, 2)
                self.assertEqual(pairs, pairs_that_meet(log))

    def test_one_two_and_three_cells(self):
        self.assertEqual((meetings(1, [], [1]), web_by_meetings(1, [1], [])), ([], []))
        self.assertEqual((meetings(2, [(1, 2)], [2, 1]), web_by_meetings(2, [2, 1], [(1, 2)])), ([(1, 2)], [(1, 2)]))
        self.assertEqual(meetings(3, [(1, 2), (2, 3)], [2, 3, 1]), [(1, 3), (2, 3)])
        self.assertEqual(web_by_meetings(3, [2, 3, 1], [(1, 3), (2, 3)]), [(1, 2), (2, 3)])

    def test_arrangements_that_are_no_outcomes(self):
        for cells, web in TREES:
            for row in set(rounds_of_all(cells)) - OUTCOMES[(cells, tuple(web))]:
                self.raised(Unfit, meetings, cells, web, list(row))
                self.raised(Unfit, web_by_meetings, cells, list(row), web)
        for ends in ([1, 2, 3, 4], [2, 1, 4, 3], [2, 3, 1, 4], [1, 3, 4, 2], [2, 1, 3, 4]):
            for web in OF_CELLS[4]:
                self.raised(Unfit, meetings, 4, web, ends)
                self.raised(Unfit, web_by_meetings, 4, ends, web)
        self.raised(Unfit, meetings, 2, [(1, 2)], [1, 2])
        self.raised(Unfit, web_by_meetings, 2, [1, 2], [(1, 2)])

    def test_great_trees_and_arrangements_that_are_no_outcomes(self):
        for cells, web in GREAT:
            for other in (PATH, some_tree(16, 77)):
                ends = ends_by_walking(16, other)
                gone = rounds_by_steps(ends)[0]
                if not all(is_stretch(gone, side) for pair in pairs_of_sides(16, web) for side in pair):
                    self.raised(Unfit, meetings, 16, web, ends)
                    self.raised(Unfit, web_by_meetings, 16, ends, web)


if __name__ == "__main__":
    unittest.main()
