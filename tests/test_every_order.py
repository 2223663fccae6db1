"""What the document promises of every order of a web, held against all logs of many small webs."""

import unittest

from unnoted.logs import (all_ends, are_one_kind, count_kinds, count_of_kind, ends, faces, met, orders, turns,
                          ways)
from unnoted.webs import bridges, round_bounds
from tests.reference import (all_exchanges, all_logs, ends_by_walking, following, has_ring, is_stretch,
                             kind_by_swaps, orders_by_cell, partner, pieces_by_reach, reached, rounds_by_steps,
                             small_logs, small_webs, way_of, without)

LOGS = small_logs()


class WaysTest(unittest.TestCase):
    def test_ends_and_ways(self):
        for cells, log in LOGS:
            self.assertEqual(ends(cells, log), ends_by_walking(cells, log))
            self.assertEqual(ways(cells, log), [way_of(log, thing) for thing in range(1, cells + 1)])

    def test_orders(self):
        for cells, log in LOGS:
            self.assertEqual(orders(cells, log), orders_by_cell(cells, log))

    def test_ways_are_told_by_the_orders(self):
        for cells, log in LOGS:
            told = orders(cells, log)
            for thing, way in enumerate(ways(cells, log), 1):
                self.assertEqual(way[1:2], told[thing - 1][:1])
                for at in range(1, len(way)):
                    order = told[way[at] - 1]
                    place = order.index(way[at - 1])
                    self.assertEqual(way[at + 1:at + 2], order[place + 1:place + 2])


class FacesTest(unittest.TestCase):
    """Point 9."""

    def test_half_ways_follow_one_another(self):
        for cells, log in LOGS:
            follows = following(cells, log)
            for face in faces(cells, log):
                self.assertEqual(face[1:] + face[:1], [follows[half] for half in face])

    def test_each_half_way_is_in_one_face_once(self):
        for cells, log in LOGS:
            halves = [half for face in faces(cells, log) for half in face]
            self.assertEqual(sorted(halves), sorted(following(cells, log)))

    def test_faces_are_the_rounds_in_their_order(self):
        for cells, log in LOGS:
            wanted = []
            for row in rounds_by_steps(ends_by_walking(cells, log)):
                gone = [way_of(log, cell) for cell in row]
                face = [(way[at], way[at + 1]) for way in gone for at in range(len(way) - 1)]
                wanted += [face] if face else []
            self.assertEqual(faces(cells, log), wanted)


class RoundsTest(unittest.TestCase):
    """Point 10."""

    def test_rounds_of_each_piece(self):
        for cells, log in LOGS:
            rounds = rounds_by_steps(ends(cells, log))
            for piece in pieces_by_reach(cells, log):
                spare = len([one for one in log if set(one) <= piece]) - len(piece)
                many = len([row for row in rounds if set(row) <= piece])
                self.assertGreaterEqual(many, 1)
                self.assertLessEqual(many, min(spare + 2, len(piece)))
                self.assertEqual(many % 2, spare % 2)

    def test_rounds_lie_within_the_bounds(self):
        for cells, web in small_webs():
            least, greatest = round_bounds(cells, web)
            for log in all_logs(web):
                many = len(rounds_by_steps(ends(cells, log)))
                self.assertTrue(least <= many <= greatest)
                self.assertEqual((many - least) % 2, 0)

    def test_one_round_in_each_piece_exactly_without_rings(self):
        for cells, web in small_webs():
            numbers = {len(rounds_by_steps(ends(cells, log))) for log in all_logs(web)}
            self.assertEqual(numbers == {len(pieces_by_reach(cells, web))}, not has_ring(web))

    def test_bounds_need_not_be_met(self):
        web = [(1, 2), (1, 3), (2, 3), (3, 4), (4, 5), (4, 6), (5, 6)]
        self.assertEqual(round_bounds(6, web), (1, 3))
        for log in all_logs(web):
            self.assertEqual(len(rounds_by_steps(ends(6, log))), 3)


class KindsTest(unittest.TestCase):
    """Point 11."""

    def test_kinds_of_each_web(self):
        for cells, web in small_webs():
            left = {tuple(log) for log in all_logs(web)}
            kinds = 0
            while left:
                kind = kind_by_swaps(min(left))
                left -= kind
                kinds += 1
                for log in kind:
                    self.assertEqual(count_of_kind(cells, list(log)), len(kind))
            self.assertEqual(count_kinds(cells, web), kinds)

    def test_kinds_of_pairs_of_logs(self):
        for cells, web in small_webs():
            if len(web) < 5:
                for log in all_logs(web):
                    kind = kind_by_swaps(log)
                    for other in all_logs(web):
                        self.assertIs(are_one_kind(cells, log, other), tuple(other) in kind)

    def test_the_sum_over_smaller_webs(self):
        for cells, web in small_webs():
            if web:
                total = 0
                for bits in range(1, 2 ** len(web)):
                    part = [one for at, one in enumerate(web) if bits >> at & 1]
                    taken = [cell for one in part for cell in one]
                    if len(set(taken)) == len(taken):
                        rest = [one for one in web if one not in part]
                        total += count_kinds(cells, rest) * (1 if len(part) % 2 else -1)
                self.assertEqual(count_kinds(cells, web), total)


class MeetingsTest(unittest.TestCase):
    """Point 12."""

    def test_the_two_things_that_lie_in_the_cells(self):
        for cells, log in LOGS:
            wanted = []
            for at, exchange in enumerate(log):
                lying = [thing for thing in range(1, cells + 1) if way_of(log[:at], thing)[-1] in exchange]
                wanted.append(tuple(lying))
            self.assertEqual(met(cells, log), wanted)

    def test_made_from_the_last_to_the_first(self):
        for cells, log in LOGS:
            self.assertEqual(ends_by_walking(cells, met(cells, log)[::-1]), ends(cells, log))


class TurnsTest(unittest.TestCase):
    """Point 13."""

    def test_turns_by_those_before(self):
        for cells, log in LOGS:
            found = turns(cells, log)
            self.assertEqual(len(found), len(log))
            for at, exchange in enumerate(log):
                before = [found[other] for other in range(at) if set(log[other]) & set(exchange)]
                self.assertEqual(found[at], 1 + max(before) if before else 1)

    def test_made_at_once_turn_by_turn(self):
        for cells, log in LOGS:
            found = turns(cells, log)
            lying = {thing: thing for thing in range(1, cells + 1)}
            for turn in range(1, max(found, default=0) + 1):
                made = [exchange for at, exchange in enumerate(log) if found[at] == turn]
                moved = {cell: partner(exchange, cell) for exchange in made for cell in exchange}
                self.assertEqual(len(moved), 2 * len(made))
                lying = {thing: moved.get(cell, cell) for thing, cell in lying.items()}
            self.assertEqual(list(lying.values()), ends(cells, log))


class OneStepTest(unittest.TestCase):
    """Point 15."""

    def test_two_neighbours_change_places(self):
        for cells, log in LOGS:
            old = ends(cells, log)
            for at in range(len(log) - 1):
                new = ends(cells, log[:at] + [log[at + 1], log[at]] + log[at + 2:])
                other = [place for place in range(cells) if new[place] != old[place]]
                if set(log[at]) & set(log[at + 1]):
                    self.assertEqual(len(other), 3)
                    self.assertEqual(sorted(new[place] for place in other), sorted(old[place] for place in other))
                else:
                    self.assertEqual(other, [])

    def test_the_first_one_is_made_as_the_last_one(self):
        for cells, log in LOGS:
            if log:
                old, new = ends(cells, log), ends(cells, log[1:] + log[:1])

                def named(cell, exchange=log[0]):
                    return partner(exchange, cell) or cell

                self.assertEqual(new, [named(old[named(cell) - 1]) for cell in range(1, cells + 1)])
                self.assertEqual(sorted(len(row) for row in rounds_by_steps(new)),
                                 sorted(len(row) for row in rounds_by_steps(old)))


class BridgesTest(unittest.TestCase):
    """Point 16."""

    def test_each_bridge_takes_one_round_away(self):
        for cells, log in LOGS:
            there = bridges(cells, sorted(log))
            left = [exchange for exchange in log if exchange not in there]
            self.assertEqual(len(rounds_by_steps(ends(cells, log))) + len(there),
                             len(rounds_by_steps(ends(cells, left))))

    def test_over_each_bridge_one_thing_goes_for_good_each_way(self):
        for cells, log in LOGS:
            row = ends(cells, log)
            for bridge in bridges(cells, sorted(log)):
                side = reached(cells, without(log, bridge), bridge[0])
                rest = reached(cells, without(log, bridge), bridge[1])
                self.assertEqual(len([cell for cell in side if row[cell - 1] in rest]), 1)
                self.assertEqual(len([cell for cell in rest if row[cell - 1] in side]), 1)

    def test_one_round_has_cells_of_both_sides(self):
        for cells, log in LOGS:
            rounds = rounds_by_steps(ends(cells, log))
            for bridge in bridges(cells, sorted(log)):
                side = reached(cells, without(log, bridge), bridge[0])
                rest = reached(cells, without(log, bridge), bridge[1])
                both = [row for row in rounds if set(row) & side and set(row) & rest]
                self.assertEqual(len(both), 1)
                self.assertTrue(is_stretch(both[0], set(both[0]) & side))
                self.assertTrue(is_stretch(both[0], set(both[0]) & rest))


class OneMoreTest(unittest.TestCase):
    """Point 17."""

    def test_rounds_become_one_or_two(self):
        for cells, log in LOGS:
            old = rounds_by_steps(ends(cells, log))
            for exchange in all_exchanges(cells):
                if exchange not in log:
                    new = rounds_by_steps(ends(cells, log + [exchange]))
                    touched = [row for row in old if set(row) & set(exchange)]
                    changed = [row for row in new if set(row) & set(exchange)]
                    self.assertEqual((len(touched), len(changed)), (2, 1) if len(touched) == 2 else (1, 2))
                    self.assertEqual(sorted(sum(touched, [])), sorted(sum(changed, [])))
                    self.assertEqual([row for row in old if row not in touched],
                                     [row for row in new if row not in changed])


class OutcomesTest(unittest.TestCase):
    """Point 6."""

    def test_all_ends_of_each_web(self):
        for cells, web in small_webs():
            wanted = {tuple(ends_by_walking(cells, log)) for log in all_logs(web)}
            self.assertEqual(all_ends(cells, web), [list(one) for one in sorted(wanted)])


if __name__ == "__main__":
    unittest.main()
