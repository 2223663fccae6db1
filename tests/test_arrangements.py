"""The class Arrangement, held against all arrangements of up to four cells and some of sixteen."""

import copy
import time
import unittest
from itertools import permutations

from unnoted import logs
from unnoted.arrangements import Arrangement
from unnoted.checks import check_ends
from unnoted.errors import (InvalidCells, InvalidEnds, InvalidLog, InvalidNumber, InvalidValues, UnequalCells,
                            UnknownCell)
from tests.reference import all_exchanges, ends_by_walking, partner, rounds_by_steps, small_logs, small_webs
from tests.test_arguments import NO_EXCHANGES, NO_LISTS, WRONG_CELLS, ArgumentsTest

ROWS = [list(row) for cells in (1, 2, 3, 4) for row in permutations(range(1, cells + 1))]
STILL = list(range(1, 17))
# One of sixteen cells with rounds of 1, 2, 3, 4 and 6 cells.
MIXED = [1, 3, 2, 5, 6, 4, 8, 9, 10, 7, 12, 13, 14, 15, 16, 11]
# One round of all sixteen cells.
LONG = [3, 6, 9, 12, 15, 1, 4, 7, 10, 13, 16, 2, 5, 8, 11, 14]
WRONG_NUMBERS = [None, True, False, 1.0, 0.5, "1", b"1", "", [1], (1,), {}, 1 + 0j, int]
NO_VALUES = [None, True, 0, 4, "abcd", b"abcd", (), (1, 2, 3, 4), {1: 1, 2: 2, 3: 3, 4: 4}, {1, 2, 3, 4}, range(4),
             iter([1, 2, 3, 4]), [], [1], [1, 2, 3], [1, 2, 3, 4, 5], [None] * 16, list]


def swap_row(cells, exchange):
    """The ends of one exchange."""
    return [partner(exchange, cell) or cell for cell in range(1, cells + 1)]


def by_steps(row, number):
    """The ends if all is made so many times, or back so many times, one time after the other."""
    found = list(range(1, len(row) + 1))
    for _ in range(abs(number)):
        found = [row[cell - 1] if number > 0 else row.index(cell) + 1 for cell in found]
    return found


class CreationTest(ArgumentsTest):
    def test_every_arrangement(self):
        for row in ROWS + [STILL, MIXED, LONG]:
            self.assertEqual(Arrangement(row).ends, row)
            self.assertEqual(Arrangement(ends=row).ends, row)

    def test_no_list(self):
        for thing in NO_LISTS + [(1, 2, 3), "123", Arrangement([1])]:
            self.assertIsNone(self.raised(InvalidEnds, Arrangement, thing).index)

    def test_no_or_too_many_things(self):
        self.assertIsNone(self.raised(InvalidEnds, Arrangement, []).index)
        for many in (17, 18, 100):
            self.assertIsNone(self.raised(InvalidEnds, Arrangement, list(range(1, many + 1))).index)
            self.assertIsNone(self.raised(InvalidEnds, Arrangement, [None] * many).index)

    def test_a_thing_that_is_no_cell(self):
        for thing in [0, -1, 5, 17, 10 ** 19, True, False, None, 1.0, 2.5, "1", b"1", [1], (1,), {}, {1}, 1 + 0j, int]:
            self.assertEqual(self.raised(InvalidEnds, Arrangement, [thing, 1, 2, 3]).index, 0)
            self.assertEqual(self.raised(InvalidEnds, Arrangement, [2, 3, thing, 1]).index, 2)
            self.assertEqual(self.raised(InvalidEnds, Arrangement, [2, 3, 4, thing]).index, 3)
            self.assertEqual(self.raised(InvalidEnds, Arrangement, [2, 3, thing, 2]).index, 2)

    def test_a_cell_that_was_there_before(self):
        self.assertEqual(self.raised(InvalidEnds, Arrangement, [1, 1]).index, 1)
        self.assertEqual(self.raised(InvalidEnds, Arrangement, [2, 3, 2, 4]).index, 2)
        self.assertEqual(self.raised(InvalidEnds, Arrangement, [2, 3, 2, 9]).index, 2)
        self.assertEqual(self.raised(InvalidEnds, Arrangement, [4, 3, 2, 4]).index, 3)
        self.assertEqual(self.raised(InvalidEnds, Arrangement, STILL[:15] + [15]).index, 15)

    def test_the_ends_are_those_of_so_many_cells(self):
        self.assertEqual(self.raised(InvalidEnds, Arrangement, [2]).index, 0)
        self.assertEqual(self.raised(InvalidEnds, Arrangement, [1, 2, 4]).index, 2)
        self.assertEqual(self.raised(InvalidEnds, Arrangement, STILL[1:] + [17]).index, 15)

    def test_a_list_of_as_many_things_as_there_are_cells(self):
        check_ends(3, [2, 3, 1])
        for ends in NO_LISTS + [[], [1], [2, 1], [1, 2, 3, 4], [None] * 4, (2, 3, 1)]:
            self.assertIsNone(self.raised(InvalidEnds, check_ends, 3, ends).index)
        self.assertEqual(self.raised(InvalidEnds, check_ends, 3, [3, 4, 3]).index, 1)

    def test_the_list_is_copied_and_not_changed(self):
        row = [2, 3, 1]
        one = Arrangement(row)
        self.assertEqual(row, [2, 3, 1])
        row[0], row[1] = row[1], row[0]
        self.assertEqual(one.ends, [2, 3, 1])
        row.clear()
        self.assertEqual((one.ends, len(one)), ([2, 3, 1], 3))

    def test_a_wrong_list_is_not_changed(self):
        row = [2, 3, 2, None]
        self.raised(InvalidEnds, Arrangement, row)
        self.assertEqual(row, [2, 3, 2, None])


class FormTest(unittest.TestCase):
    LISTED = ["ends", "rounds", "__len__", "__eq__", "__getitem__", "__call__", "__mul__", "__imul__", "__invert__",
              "__pow__", "repeated", "__xor__", "__abs__", "still", "after", "__init__"]

    def test_all_is_defined_in_the_class_itself(self):
        self.assertEqual(Arrangement.__module__, "unnoted.arrangements")
        for name in self.LISTED:
            self.assertIn(name, vars(Arrangement))

    def test_properties_and_class_methods(self):
        for name in ("ends", "rounds"):
            self.assertIs(type(vars(Arrangement)[name]), property)
        for name in ("still", "after"):
            self.assertIs(type(vars(Arrangement)[name]), classmethod)


class PropertiesTest(unittest.TestCase):
    def test_ends_and_rounds_and_length(self):
        for row in ROWS + [STILL, MIXED, LONG]:
            one = Arrangement(row)
            self.assertEqual((one.ends, one.rounds, len(one)), (row, rounds_by_steps(row), len(row)))

    def test_some_rounds(self):
        self.assertEqual(Arrangement([1]).rounds, [[1]])
        self.assertEqual(Arrangement([2, 1]).rounds, [[1, 2]])
        self.assertEqual(Arrangement(STILL).rounds, [[cell] for cell in STILL])
        self.assertEqual(Arrangement(MIXED).rounds,
                         [[1], [2, 3], [4, 5, 6], [7, 8, 9, 10], [11, 12, 13, 14, 15, 16]])
        self.assertEqual(Arrangement(LONG).rounds, [[1, 3, 9, 10, 13, 5, 15, 11, 16, 14, 8, 7, 4, 12, 2, 6]])
        self.assertEqual(Arrangement([3, 5, 1, 2, 4]).rounds, [[1, 3], [2, 5, 4]])

    def test_lists_are_new_each_time(self):
        one = Arrangement(MIXED)
        self.assertIsNot(one.ends, one.ends)
        self.assertIsNot(one.rounds, one.rounds)
        lists = one.rounds + one.rounds
        self.assertEqual(len({id(row) for row in lists}), len(lists))

    def test_changing_them_changes_nothing_else(self):
        one = Arrangement([2, 3, 1, 4])
        one.ends.clear()
        rounds = one.rounds
        rounds[0].clear()
        rounds.clear()
        self.assertEqual((one.ends, one.rounds, len(one)), ([2, 3, 1, 4], [[1, 2, 3], [4]], 4))


class EqualTest(unittest.TestCase):
    def test_equal_if_their_ends_are(self):
        for row in ROWS:
            for other in ROWS:
                self.assertIs(Arrangement(row) == Arrangement(other), row == other)
                self.assertIs(Arrangement(row) != Arrangement(other), row != other)

    def test_none_is_equal_to_a_thing_of_another_class(self):
        class Same:
            def __eq__(self, other):
                return True

            def __ne__(self, other):
                return False

        one = Arrangement([2, 1])
        for thing in ([2, 1], (2, 1), [[1, 2]], None, True, 2, "21", {1: 2, 2: 1}, Arrangement, Same()):
            self.assertIs(one == thing, False)
            self.assertIs(one != thing, True)


class CellsTest(ArgumentsTest):
    def test_the_end_of_each_thing(self):
        for row in ROWS + [STILL, MIXED, LONG]:
            one = Arrangement(row)
            self.assertEqual([one[cell] for cell in range(1, len(row) + 1)], row)

    def test_what_is_not_a_cell(self):
        one = Arrangement([2, 3, 1, 4])
        for cell in [0, -1, 5, 17, 10 ** 19, True, False, None, 1.0, 2.5, "1", b"1", "", [1], (1,), (1, 2), {}, {1},
                     slice(1, 3), slice(None), ..., int]:
            self.assertIs(self.raised(UnknownCell, one.__getitem__, cell).cell, cell)
        with self.assertRaises(LookupError):
            one[0]
        with self.assertRaises(UnknownCell):
            one[1:3]

    def test_the_cells_are_its_own(self):
        self.assertEqual(Arrangement(LONG)[16], 14)
        self.assertEqual(self.raised(UnknownCell, Arrangement([1]).__getitem__, 2).cell, 2)
        self.assertEqual(self.raised(UnknownCell, Arrangement(LONG).__getitem__, 17).cell, 17)


class ValuesTest(ArgumentsTest):
    def test_each_value_comes_to_its_end(self):
        for row in ROWS + [STILL, MIXED, LONG]:
            values = [f"thing {cell}" for cell in range(1, len(row) + 1)]
            found = Arrangement(row)(values)
            self.assertIs(type(found), list)
            for cell, value in enumerate(values, 1):
                self.assertEqual(found[row[cell - 1] - 1], value)

    def test_values_of_any_kind_themselves(self):
        values = [[1], {}, None, object(), True, Arrangement([1]), [1], 1.5, "", {1}, lambda: None, 0, 0, (), int,
                  iter([])]
        kept = list(values)
        found = Arrangement(MIXED)(values)
        for cell, value in enumerate(kept, 1):
            self.assertIs(found[MIXED[cell - 1] - 1], value)
        self.assertEqual(len(values), 16)
        self.assertTrue(all(one is other for one, other in zip(values, kept)))

    def test_the_list_is_new(self):
        values = ["a", "b"]
        one = Arrangement([1, 2])
        self.assertEqual(one(values), values)
        self.assertIsNot(one(values), values)
        self.assertIsNot(one(values), one(values))
        one(values).clear()
        self.assertEqual((values, one(values)), (["a", "b"], ["a", "b"]))

    def test_by_name(self):
        self.assertEqual(Arrangement([2, 3, 1])(values=["a", "b", "c"]), ["c", "a", "b"])

    def test_no_list_of_as_many_things(self):
        one = Arrangement([2, 3, 1, 4])
        for values in NO_VALUES:
            self.raised(InvalidValues, one, values)
        self.raised(InvalidValues, Arrangement([1]), [])
        self.raised(InvalidValues, Arrangement([1]), [1, 2])

    def test_the_same_as_the_ends_of_the_values(self):
        # A log moves whatever lies in the cells.
        for cells, log in small_logs():
            values = list(range(101, 101 + cells))
            lying = list(values)
            for first, second in log:
                lying[first - 1], lying[second - 1] = lying[second - 1], lying[first - 1]
            self.assertEqual(Arrangement.after(cells, log)(values), lying)


class ProductTest(ArgumentsTest):
    def pairs(self):
        """Tuples of two lists of ends of as many cells."""
        pairs = [(row, other) for row in ROWS for other in ROWS if len(row) == len(other)]
        return pairs + [(MIXED, LONG), (LONG, MIXED), (STILL, LONG), (LONG, LONG)]

    def test_first_one_then_two(self):
        for row, other in self.pairs():
            one, two = Arrangement(row), Arrangement(other)
            made = one * two
            self.assertIs(type(made), Arrangement)
            self.assertEqual([made[cell] for cell in range(1, len(row) + 1)],
                             [two[one[cell]] for cell in range(1, len(row) + 1)])
            self.assertEqual((one.ends, two.ends), (row, other))

    def test_the_logs_one_behind_the_other(self):
        for cells, web in small_webs():
            for at in range(len(web) + 1):
                made = Arrangement.after(cells, web[:at]) * Arrangement.after(cells, web[at:])
                self.assertEqual(made, Arrangement.after(cells, web))

    def test_results_are_new_objects(self):
        one, still = Arrangement([2, 3, 1]), Arrangement([1, 2, 3])
        for made in (one * still, still * one, one ^ still, one ** 1, one.repeated(1), ~still, still * still,
                     still ** 0, still ^ still, still.repeated(0), still.repeated(-1)):
            self.assertIsNot(made, one)
            self.assertIsNot(made, still)
        made = one * still
        made *= one
        self.assertEqual((one.ends, still.ends), ([2, 3, 1], [1, 2, 3]))

    def test_in_place_changes_the_object(self):
        for row, other in self.pairs():
            one, two = Arrangement(row), Arrangement(other)
            wanted = [other[end - 1] for end in row]
            same = one
            one *= two
            self.assertIs(one, same)
            self.assertEqual((same.ends, same.rounds), (wanted, rounds_by_steps(wanted)))
            self.assertEqual(two.ends, other)

    def test_in_place_with_itself(self):
        one = Arrangement([2, 3, 4, 1])
        same = one
        one *= one
        self.assertIs(one, same)
        self.assertEqual(same.ends, [3, 4, 1, 2])

    def test_in_place_keeps_what_was_read_before(self):
        row = [2, 3, 1]
        one = Arrangement(row)
        ends, back = one.ends, ~one
        one *= one
        self.assertEqual((row, ends, back.ends), ([2, 3, 1], [2, 3, 1], [3, 1, 2]))

    def test_in_place_within_a_list(self):
        one = Arrangement([2, 3, 1])
        held = [one]
        held[0] *= Arrangement([2, 1, 3])
        self.assertIs(held[0], one)
        self.assertEqual(one.ends, [1, 3, 2])

    def test_named_by_another_one(self):
        for row, other in self.pairs():
            one, two = Arrangement(row), Arrangement(other)
            named = one ^ two
            self.assertIs(type(named), Arrangement)
            for cell in range(1, len(row) + 1):
                self.assertEqual(named[two[cell]], two[one[cell]])
            self.assertEqual(named, ~two * one * two)
            self.assertEqual(sorted(len(cells) for cells in named.rounds), sorted(len(cells) for cells in one.rounds))
            self.assertEqual((one.ends, two.ends), (row, other))

    def test_the_log_named_by_another_one(self):
        for cells, log in small_logs():
            names = list(range(2, cells + 1)) + [1]
            named = [tuple(sorted((names[first - 1], names[second - 1]))) for first, second in log]
            self.assertEqual(Arrangement.after(cells, log) ^ Arrangement(names), Arrangement.after(cells, named))

    def test_other_things_are_refused(self):
        # The document leaves this open; the program lets Python refuse them.
        def changed(one, thing):
            one *= thing

        for call in (lambda one, thing: one * thing, lambda one, thing: thing * one, lambda one, thing: one ^ thing,
                     lambda one, thing: one ** thing, changed):
            for thing in (None, "2", [2, 1], -1, True):
                one = Arrangement([2, 1])
                self.raised(TypeError, call, one, thing)
                self.assertEqual(one.ends, [2, 1])

    def test_unequal_cells(self):
        def multiplied(one, two):
            return one * two

        def changed(one, two):
            one *= two
            return one

        def named(one, two):
            return one ^ two

        for row, other in (([1], [2, 1]), ([2, 1], [1]), (MIXED, [2, 3, 1]), ([2, 3, 1], MIXED), (STILL, STILL[:15])):
            for call in (multiplied, changed, named):
                one, two = Arrangement(row), Arrangement(other)
                error = self.raised(UnequalCells, call, one, two)
                self.assertEqual((error.first, error.second), (len(row), len(other)))
                self.assertEqual((one.ends, two.ends), (row, other))


class BackTest(unittest.TestCase):
    def test_leads_back(self):
        for row in ROWS + [STILL, MIXED, LONG]:
            one = Arrangement(row)
            back = ~one
            self.assertIs(type(back), Arrangement)
            self.assertEqual([back[one[cell]] for cell in range(1, len(row) + 1)], list(range(1, len(row) + 1)))
            self.assertEqual(one * back, Arrangement.still(len(row)))
            self.assertEqual(back * one, Arrangement.still(len(row)))
            self.assertEqual(~back, one)
            self.assertEqual(one.ends, row)

    def test_the_log_made_back(self):
        for cells, log in small_logs():
            self.assertEqual(~Arrangement.after(cells, log), Arrangement.after(cells, log[::-1]))


class RepeatedTest(ArgumentsTest):
    def test_step_by_step(self):
        for row in ROWS + [STILL, MIXED, LONG]:
            one = Arrangement(row)
            for number in range(-13, 14):
                self.assertEqual(one.repeated(number).ends, by_steps(row, number))
                self.assertIs(type(one.repeated(number)), Arrangement)
                if number >= 0:
                    self.assertEqual((one ** number).ends, by_steps(row, number))
                    self.assertIs(type(one ** number), Arrangement)
            self.assertEqual(one.ends, row)

    def test_by_name(self):
        self.assertEqual(Arrangement([2, 3, 1]).repeated(number=-1).ends, [3, 1, 2])

    def test_numbers_of_twenty_figures(self):
        begun = time.monotonic()
        for row in ROWS + [STILL, MIXED, LONG]:
            one = Arrangement(row)
            for number in (10 ** 18, 10 ** 19 - 1, 2 ** 63, 10 ** 20 - 1, 98765432109876543210, 10 ** 19 + 7):
                # Rounds of up to 16 cells are where they were after so many times.
                few = number % 720720
                self.assertEqual(one ** number, one ** few)
                self.assertEqual(one.repeated(number), one ** few)
                self.assertEqual(one.repeated(-number), ~one ** few)
        self.assertLess(time.monotonic() - begun, 5)

    def test_some_great_numbers(self):
        one = Arrangement([2, 3, 1, 4])
        self.assertEqual((one ** 1000000000000000000).ends, [2, 3, 1, 4])
        self.assertEqual((one ** 9999999999999999999).ends, [1, 2, 3, 4])
        self.assertEqual(one.repeated(-1000000000000000000).ends, [3, 1, 2, 4])
        self.assertEqual(Arrangement(LONG).repeated(-(16 * 10 ** 17 + 1)), ~Arrangement(LONG))
        self.assertEqual(Arrangement(MIXED) ** (12 * 10 ** 18 + 5), Arrangement(MIXED) ** 5)

    def test_what_is_no_whole_number(self):
        one = Arrangement([2, 3, 1, 4])
        for number in WRONG_NUMBERS:
            self.assertIs(self.raised(InvalidNumber, one.repeated, number).number, number)
        self.assertEqual(one.ends, [2, 3, 1, 4])


class LeastTest(unittest.TestCase):
    def test_cells_less_rounds(self):
        for row in ROWS + [STILL, MIXED, LONG]:
            self.assertEqual(abs(Arrangement(row)), len(row) - len(rounds_by_steps(row)))
        self.assertEqual((abs(Arrangement([1])), abs(Arrangement(STILL))), (0, 0))
        self.assertEqual((abs(Arrangement(MIXED)), abs(Arrangement(LONG))), (11, 15))

    def test_the_least_number_of_exchanges(self):
        for cells in range(1, 6):
            least = {tuple(range(1, cells + 1)): 0}
            waiting = list(least)
            for row in waiting:
                for exchange in all_exchanges(cells):
                    swapped = tuple(partner(exchange, end) or end for end in row)
                    if swapped not in least:
                        least[swapped] = least[row] + 1
                        waiting.append(swapped)
            self.assertEqual(sorted(least), sorted(permutations(range(1, cells + 1))))
            for row, many in least.items():
                self.assertEqual(abs(Arrangement(list(row))), many)


class ClassMethodsTest(ArgumentsTest):
    def test_still(self):
        for cells in range(1, 17):
            one = Arrangement.still(cells)
            self.assertIs(type(one), Arrangement)
            self.assertEqual(one.ends, STILL[:cells])
            self.assertIsNot(Arrangement.still(cells), one)
        self.assertEqual(Arrangement.still(cells=3).ends, [1, 2, 3])

    def test_after(self):
        for cells, log in small_logs():
            passed = copy.deepcopy(log)
            one = Arrangement.after(cells, passed)
            self.assertIs(type(one), Arrangement)
            self.assertEqual(one.ends, ends_by_walking(cells, log))
            self.assertEqual(one.ends, logs.ends(cells, log))
            self.assertEqual(passed, log)
        self.assertEqual(Arrangement.after(log=[(1, 3)], cells=3).ends, [3, 2, 1])
        self.assertEqual(Arrangement.after(16, all_exchanges(16)[::-1]).ends,
                         ends_by_walking(16, all_exchanges(16)[::-1]))

    def test_off_an_object(self):
        self.assertEqual(Arrangement([2, 1]).still(3).ends, [1, 2, 3])
        self.assertEqual(Arrangement([2, 1]).after(3, [(2, 3)]).ends, [1, 3, 2])

    def test_wrong_numbers_of_cells(self):
        for cells in WRONG_CELLS:
            self.assertIs(self.raised(InvalidCells, Arrangement.still, cells).cells, cells)
            for log in ([], None, [None], [(1, 2), (1, 2)]):
                self.assertIs(self.raised(InvalidCells, Arrangement.after, cells, log).cells, cells)

    def test_wrong_logs(self):
        for log in NO_LISTS:
            self.assertIsNone(self.raised(InvalidLog, Arrangement.after, 4, log).index)
        for thing in NO_EXCHANGES:
            self.assertEqual(self.raised(InvalidLog, Arrangement.after, 4, [(3, 4), thing, (3, 4)]).index, 1)
        self.assertEqual(self.raised(InvalidLog, Arrangement.after, 4, [(3, 4), (1, 2), (3, 4), None]).index, 2)


class LogsTest(unittest.TestCase):
    """Points 15 and 17, as arrangements and logs show them together."""

    def test_two_neighbours_change_places(self):
        for cells, log in small_logs():
            old = Arrangement.after(cells, log)
            for at in range(len(log) - 1):
                new = Arrangement.after(cells, log[:at] + [log[at + 1], log[at]] + log[at + 2:])
                # Three things take one another's ends in turn, or none does.
                changed = [row for row in (old * ~new).rounds if len(row) > 1]
                touching = set(log[at]) & set(log[at + 1])
                self.assertEqual([len(row) for row in changed], [3] if touching else [])

    def test_the_first_one_is_made_as_the_last_one(self):
        for cells, log in small_logs():
            if log:
                swap = Arrangement(swap_row(cells, log[0]))
                old, new = Arrangement.after(cells, log), Arrangement.after(cells, log[1:] + log[:1])
                self.assertEqual(new, old ^ swap)

    def test_one_more_exchange(self):
        for row in ROWS + [STILL, MIXED, LONG]:
            one = Arrangement(row)
            for exchange in all_exchanges(len(row)):
                more = one * Arrangement.after(len(row), [exchange])
                apart = not any(set(exchange) <= set(cells) for cells in one.rounds)
                self.assertEqual(len(more.rounds), len(one.rounds) + (-1 if apart else 1))
                self.assertEqual([cells for cells in one.rounds if not set(cells) & set(exchange)],
                                 [cells for cells in more.rounds if not set(cells) & set(exchange)])

    def test_meetings_from_the_last_to_the_first(self):
        # Point 12; meetings may occur twice, so each is an arrangement of its own.
        for cells, log in small_logs():
            made = Arrangement.still(cells)
            for pair in logs.met(cells, log)[::-1]:
                made *= Arrangement(swap_row(cells, pair))
            self.assertEqual(made, Arrangement.after(cells, log))


if __name__ == "__main__":
    unittest.main()
