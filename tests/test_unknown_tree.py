"""Points 23 to 25: the class Nights, held against all trees that fit, gone through one by one."""

import time
import unittest
from itertools import combinations
from math import comb, prod

from unnoted.errors import InvalidCells, NothingToUndo, Unfit
from unnoted.nights import Nights, telling_nights
from tests.reference import (Numbers, all_exchanges, all_trees, common_stretches, ends_by_walking, ends_of_round,
                             fits_night, is_drawn, is_so, order_at, outcomes, rounds_of_all, sides_by_reach, some_tree,
                             trees_by_codes)
from tests.test_arguments import ArgumentsTest

OF_CELLS = {cells: all_trees(cells) for cells in range(1, 7)}
OUTCOMES = {(cells, tuple(web)): outcomes(cells, web) for cells in range(1, 6) for web in OF_CELLS[cells]}
SEVEN = trees_by_codes(7)


def all_told(cells):
    """All that can be told of a tree beside nights."""
    found = [(word, *exchange) for word in ("has", "lacks") for exchange in all_exchanges(cells)]
    return found + [("busy", cell) for cell in range(1, cells + 1)]


def tell(nights, told):
    """Tell an entry of `known`."""
    if told[0] == "busy":
        return nights.busy(told[1])
    return nights.has(told[1], told[2]) if told[0] == "has" else nights.lacks(told[1], told[2])


def state(nights):
    """All that can be asked for in short time."""
    return len(nights), nights.nights, nights.known, nights.count(), nights.stretches()


def circle(cells):
    """The night with the round of the cells in their order."""
    return ends_of_round(list(range(1, cells + 1)))


def drawn_on_circle(cells):
    """The number of trees that can be drawn without crossings, as the document says."""
    return comb(3 * cells - 3, cells - 1) // (2 * cells - 1)


def trees_left(cells, rows, known):
    """All trees of up to five cells that fit: they have all nights among their outcomes."""
    return [web for web in OF_CELLS[cells] if all(tuple(row) in OUTCOMES[(cells, tuple(web))] for row in rows)
            and all(is_so(web, told) for told in known)]


class UnknownTreeTest(ArgumentsTest):
    def check(self, nights, rows, known, left):
        """Hold an object against its nights, what is known beside, and the list of all trees that fit."""
        cells = len(rows[0])
        self.assertEqual((len(nights), nights.nights, nights.known), (len(rows), [list(row) for row in rows], known))
        self.assertEqual(nights.count(), len(left))
        self.assertEqual(nights.stretches(), common_stretches(cells, rows))
        for first, second in all_exchanges(cells):
            there = [(first, second) in web for web in left]
            self.assertIs(nights.may(first, second), any(there))
            self.assertIs(nights.may(second, first), any(there))
            self.assertIs(nights.must(first, second), all(there))
            self.assertIs(nights.must(second, first), all(there))
        self.assertIn(nights.a_tree(), left)
        if cells <= 6:
            self.assertEqual(nights.trees(), sorted(left))

    def check_refused(self, nights, call, *arguments):
        """Hold an object against its state before a call that raises Unfit."""
        before = state(nights)
        self.raised(Unfit, call, *arguments)
        self.assertEqual(state(nights), before)


class NightsTest(UnknownTreeTest):
    def test_all_nights_of_up_to_five_cells(self):
        for cells in range(1, 6):
            for row in rounds_of_all(cells):
                self.check(Nights(cells, list(row)), [row], [], trees_left(cells, [row], []))

    def test_two_nights_of_up_to_five_cells(self):
        for cells in range(1, 6):
            rounds = rounds_of_all(cells)
            for first in rounds[::5] if cells == 5 else rounds:
                for second in rounds:
                    nights = Nights(cells, list(first))
                    self.assertIsNone(nights.see(list(second)))
                    left = trees_left(cells, [first, second], [])
                    self.check(nights, [first, second], [], left)
                    for web in OF_CELLS[cells] if cells < 5 else OF_CELLS[cells][::7]:
                        self.assertIs(nights.fits(web), web in left)

    def test_all_outcomes_of_a_tree(self):
        for cells in range(1, 6):
            for web in OF_CELLS[cells][::3]:
                rows = sorted(OUTCOMES[(cells, tuple(web))])
                nights = Nights(cells, list(rows[0]))
                for row in rows[1:]:
                    nights.see(list(row))
                self.check(nights, rows, [], trees_left(cells, rows, []))

    def test_many_nights_of_six_and_seven_cells(self):
        for cells, webs in ((6, OF_CELLS[6]), (7, SEVEN)):
            for number in range(6 if cells == 6 else 3):
                numbers = Numbers(number + 50)
                log = numbers.mixed(webs[numbers.below(len(webs))])
                rows = [ends_by_walking(cells, log)]
                nights = Nights(cells, rows[0])
                left = [web for web in webs if is_drawn(web, rows[0])]
                self.check(nights, rows, [], left)
                for _ in range(3):
                    rows.append(ends_by_walking(cells, numbers.mixed(log)))
                    nights.see(rows[-1])
                    left = [web for web in left if is_drawn(web, rows[-1])]
                    self.check(nights, rows, [], left)
                    self.assertTrue(nights.fits(sorted(log)))
                for web in webs[::97]:
                    self.assertIs(nights.fits(web), web in left)

    def test_the_number_of_trees_after_one_night(self):
        for cells in range(1, 11):
            numbers = Numbers(cells)
            for row in [circle(cells)] + [numbers.night(cells) for _ in range(5)]:
                self.assertEqual(Nights(cells, row).count(), drawn_on_circle(cells))
        self.assertEqual(Nights(10, circle(10)).count(), 246675)
        self.assertIs(type(Nights(10, circle(10)).count()), int)

    def test_nothing_is_known_of_an_exchange_by_nights_alone(self):
        for cells in range(3, 11):
            numbers = Numbers(cells)
            nights = Nights(cells, numbers.night(cells))
            for _ in range(4):
                for first, second in all_exchanges(cells):
                    self.assertIs(nights.may(first, second), True)
                    self.assertIs(nights.must(first, second), False)
                for middle in range(1, cells + 1):
                    star = [(min(middle, cell), max(middle, cell)) for cell in range(1, cells + 1) if cell != middle]
                    self.assertTrue(nights.fits(sorted(star)))
                nights.see(numbers.night(cells))

    def test_a_night_that_is_not_one_round(self):
        for ends in ([1, 2, 3, 4], [2, 1, 4, 3], [1, 3, 4, 2], [2, 3, 1, 4]):
            self.raised(Unfit, Nights, 4, ends)
            nights = Nights(4, circle(4))
            self.check_refused(nights, nights.see, ends)
        self.raised(Unfit, Nights, 2, [1, 2])
        self.raised(Unfit, Nights, 10, list(range(1, 11)))

    def test_the_same_night_again(self):
        nights = Nights(6, circle(6))
        for _ in range(3):
            nights.see(circle(6))
        self.assertEqual((len(nights), nights.nights, nights.count()), (4, [circle(6)] * 4, 273))

    def test_telling_nights_leave_the_trees_with_splits_of_the_tree(self):
        trees = [(10, some_tree(10, number)) for number in range(20)] + [(4, web) for web in OF_CELLS[4]]
        for cells, web in trees + [(cells, some_tree(cells, cells)) for cells in range(5, 10)]:
            rows = telling_nights(cells, web)
            nights = Nights(cells, rows[0])
            for row in rows[1:]:
                nights.see(row)
            self.assertEqual(nights.stretches(), sides_by_reach(cells, web))
            self.assertEqual(nights.count(), trees_with_splits_of(cells, web))

    def test_busy_middles_tell_the_whole_tree(self):
        trees = [(cells, web) for cells in (3, 4, 5) for web in OF_CELLS[cells]]
        trees += [(6, web) for web in OF_CELLS[6][::50]] + [(10, some_tree(10, number)) for number in range(6)]
        for cells, web in trees:
            rows = telling_nights(cells, web) or [ends_by_walking(cells, web)]
            middles = [cell for cell in range(1, cells + 1) if len(order_at(web, cell)) > 1]
            for missing in [None] + middles:
                nights = Nights(cells, rows[0])
                for row in rows[1:]:
                    nights.see(row)
                for cell in middles:
                    if cell != missing:
                        nights.busy(cell)
                self.assertTrue(nights.fits(web))
                self.assertEqual(nights.count() == 1, missing is None)
                if missing is None:
                    self.assertEqual(nights.a_tree(), web)


def trees_with_splits_of(cells, web):
    """The number of trees all of whose splits are splits of a tree: some inner exchanges go, the bundles there join.

    The cells of each joined bundle can all be its middle.
    """
    inner = [one for one in web if min(len(order_at(web, cell)) for cell in one) > 1]
    found = 0
    for many in range(len(inner) + 1):
        for kept in combinations(inner, many):
            parts = {cell: {cell} for cell in range(1, cells + 1)}
            for one, two in web:
                if (one, two) not in kept:
                    joined = parts[one] | parts[two]
                    for cell in joined:
                        parts[cell] = joined
            found += prod(len(part) for part in {min(part): part for part in parts.values()}.values())
    return found


class KnownTest(UnknownTreeTest):
    def test_each_thing_told_of_up_to_five_cells(self):
        for cells in range(1, 6):
            rounds = rounds_of_all(cells)
            for row in rounds[::7] if cells == 5 else rounds:
                for told in all_told(cells):
                    nights = Nights(cells, list(row))
                    left = trees_left(cells, [row], [told])
                    if left:
                        self.assertIsNone(tell(nights, told))
                        self.check(nights, [row], [told], left)
                    else:
                        self.check_refused(nights, tell, nights, told)

    def test_two_things_told_of_four_cells(self):
        for rows in (rounds_of_all(4)[:1], rounds_of_all(4)[1:3], rounds_of_all(4)[2:5]):
            nights = Nights(4, list(rows[0]))
            for row in rows[1:]:
                nights.see(list(row))
            for first in all_told(4):
                tell(nights, first)
                for second in all_told(4):
                    left = trees_left(4, rows, [first, second])
                    if left:
                        tell(nights, second)
                        self.check(nights, rows, [first, second], left)
                        nights.undo()
                    else:
                        self.check_refused(nights, tell, nights, second)
                nights.undo()

    def test_all_known_exchanges_of_a_tree(self):
        for cells in range(2, 11):
            for number in range(4):
                web = some_tree(cells, number)
                nights = Nights(cells, ends_by_walking(cells, web))
                for first, second in web:
                    self.assertTrue(nights.may(first, second))
                    nights.has(second, first)
                self.assertEqual((nights.count(), nights.a_tree()), (1, web))
                self.assertEqual(nights.known, [("has", first, second) for first, second in web])
                for first, second in all_exchanges(cells):
                    self.assertIs(nights.must(first, second), (first, second) in web)
                    self.assertIs(nights.may(first, second), (first, second) in web)
                    if (first, second) not in web:
                        self.check_refused(nights, nights.has, first, second)
                    else:
                        self.check_refused(nights, nights.lacks, second, first)

    def test_all_but_one_exchange_of_two_cells(self):
        nights = Nights(2, [2, 1])
        self.assertEqual((nights.count(), nights.may(1, 2), nights.must(2, 1)), (1, True, True))
        self.check_refused(nights, nights.lacks, 1, 2)
        self.check_refused(nights, nights.busy, 1)
        self.check_refused(nights, nights.busy, 2)
        self.assertIsNone(nights.has(2, 1))
        self.assertEqual((nights.trees(), nights.a_tree(), nights.stretches()), ([[(1, 2)]], [(1, 2)], []))

    def test_one_cell(self):
        nights = Nights(1, [1])
        self.check_refused(nights, nights.busy, 1)
        self.assertIsNone(nights.see([1]))
        self.assertEqual((len(nights), nights.count(), nights.trees(), nights.a_tree()), (2, 1, [[]], []))
        self.assertEqual((nights.fits([]), nights.stretches(), nights.known), (True, [], []))

    def test_known_as_it_was_told(self):
        nights = Nights(5, circle(5))
        nights.lacks(4, 1)
        nights.busy(3)
        nights.has(5, 4)
        nights.busy(3)
        nights.has(4, 5)
        nights.lacks(1, 4)
        self.assertEqual(nights.known, [("lacks", 1, 4), ("busy", 3), ("has", 4, 5), ("busy", 3), ("has", 4, 5),
                                        ("lacks", 1, 4)])
        self.assertTrue(all(type(told) is tuple for told in nights.known))

    def test_a_busy_cell(self):
        for cells in range(3, 8):
            for row in (circle(cells), Numbers(cells).night(cells)):
                webs = [web for web in (OF_CELLS[cells] if cells < 7 else SEVEN) if is_drawn(web, row)]
                for cell in range(1, cells + 1):
                    nights = Nights(cells, row)
                    nights.busy(cell)
                    self.assertEqual(nights.count(), len([web for web in webs if len(order_at(web, cell)) > 1]))

    def test_exchanges_of_ten_cells(self):
        nights = Nights(10, Numbers(4).night(10))
        counts = []
        for first, second in all_exchanges(10):
            nights.has(first, second)
            counts.append(nights.count())
            nights.undo()
            nights.lacks(first, second)
            self.assertEqual(counts[-1] + nights.count(), 246675)
            nights.undo()
        # Each tree has nine exchanges.
        self.assertEqual(sum(counts), 9 * 246675)

    def test_busy_cells_of_ten_cells(self):
        row = Numbers(9).night(10)
        for cell in (1, 4, 10):
            # A cell that is not busy has an exchange with just one of the other cells.
            leaves = 0
            for other in range(1, 11):
                if other != cell:
                    nights = Nights(10, row)
                    for barred in range(1, 11):
                        if barred not in (cell, other):
                            nights.lacks(cell, barred)
                    leaves += nights.count()
            nights = Nights(10, row)
            nights.busy(cell)
            self.assertEqual(nights.count() + leaves, 246675)

    def test_other_names_of_the_cells_give_the_same_numbers(self):
        for number in range(30):
            numbers = Numbers(number)
            cells = 5 + number % 6
            names = dict(zip(range(1, cells + 1), numbers.mixed(range(1, cells + 1))))
            log = numbers.mixed(some_tree(cells, number))
            one = Nights(cells, ends_by_walking(cells, log))
            two = Nights(cells, ends_by_walking(cells, [(names[first], names[second]) for first, second in log]))
            for step in range(8):
                if step % 4 == 3:
                    log = numbers.mixed(log)
                    one.see(ends_by_walking(cells, log))
                    two.see(ends_by_walking(cells, [(names[first], names[second]) for first, second in log]))
                else:
                    there = [told for told in all_told(cells) if is_so(log, told) and (told[0] != "has" or step > 5)]
                    told = there[numbers.below(len(there))]
                    tell(one, told)
                    tell(two, (told[0], *[names[cell] for cell in told[1:]]))
                self.assertEqual(one.count(), two.count())
                self.assertEqual(len(one.stretches()), len(two.stretches()))


class ManyThingsTest(UnknownTreeTest):
    """Nights and other things told in all orders, taken back, and refused."""

    def some_told(self, numbers, cells, webs):
        """A night or something else; most of it is so for one of some trees."""
        if numbers.below(4) == 0:
            log = numbers.mixed(webs[numbers.below(len(webs))])
            return ("night", ends_by_walking(cells, log) if numbers.below(4) else numbers.night(cells))
        every = all_told(cells)
        return every[numbers.below(len(every))]

    def model(self, cells, every, history):
        """The nights, what is known beside, and the trees that fit, after all of a history."""
        rows = [row for word, *rest in history if word == "night" for row in rest]
        known = [told for told in history if told[0] != "night"]
        left = [web for web in every if all(is_drawn(web, row) for row in rows)]
        return rows, known, [web for web in left if all(is_so(web, told) for told in known)]

    def run_steps(self, cells, number, steps):
        numbers = Numbers(number)
        every = OF_CELLS[cells]
        history = [("night", numbers.night(cells))]
        nights = Nights(cells, history[0][1])
        for _ in range(steps):
            told = self.some_told(numbers, cells, self.model(cells, every, history)[2])
            call = (lambda: nights.see(told[1])) if told[0] == "night" else (lambda: tell(nights, told))
            if numbers.below(5) == 0:
                if len(history) > 1:
                    self.assertIsNone(nights.undo())
                    history.pop()
                else:
                    self.raised(NothingToUndo, nights.undo)
            elif self.model(cells, every, history + [told])[2]:
                self.assertIsNone(call())
                history.append(told)
            else:
                self.check_refused(nights, call)
            rows, known, left = self.model(cells, every, history)
            self.assertEqual((nights.count(), len(nights), nights.known), (len(left), len(rows), known))
        self.check(nights, rows, known, left)
        for web in every[::5]:
            self.assertIs(nights.fits(web), web in left)
        return nights, history

    def test_many_things_of_small_trees(self):
        for number in range(60):
            self.run_steps(3 + number % 3, number, 16)

    def test_many_things_of_six_cells(self):
        for number in range(4):
            self.run_steps(6, number + 100, 12)

    def test_undo_back_to_the_first_night(self):
        for number in range(20):
            nights, history = self.run_steps(3 + number % 3, number + 200, 10)
            cells = 3 + number % 3
            while len(history) > 1:
                nights.undo()
                history.pop()
                rows, known, left = self.model(cells, OF_CELLS[cells], history)
                self.check(nights, rows, known, left)
            for _ in range(2):
                self.raised(NothingToUndo, nights.undo)
                self.check(nights, [history[0][1]], [], self.model(cells, OF_CELLS[cells], history)[2])


class UndoTest(UnknownTreeTest):
    def test_nothing_to_undo(self):
        nights = Nights(4, circle(4))
        self.raised(NothingToUndo, nights.undo)
        self.assertEqual(state(nights), state(Nights(4, circle(4))))
        nights.see([2, 4, 1, 3])
        self.assertIsNone(nights.undo())
        self.raised(NothingToUndo, nights.undo)
        self.assertEqual(state(nights), state(Nights(4, circle(4))))

    def test_a_call_that_raised_an_error_is_not_taken_back(self):
        nights = Nights(4, circle(4))
        nights.has(1, 2)
        for call, arguments in ((nights.lacks, (1, 2)), (nights.see, ([1, 2, 3, 4],)), (nights.see, (None,)),
                                (nights.busy, (5,)), (nights.has, (1, 1)), (nights.has, (0, 1)), (nights.fits, ([],))):
            with self.assertRaises((ValueError, LookupError)):
                call(*arguments)
        self.assertIsNone(nights.undo())
        self.assertEqual(state(nights), state(Nights(4, circle(4))))

    def test_each_kind_is_taken_back(self):
        nights = Nights(5, circle(5))
        states = [state(nights)]
        for call, arguments in ((nights.see, ([2, 4, 1, 5, 3],)), (nights.has, (3, 1)), (nights.see, (circle(5),)),
                                (nights.lacks, (1, 5)), (nights.busy, (3,)), (nights.see, (circle(5),)),
                                (nights.busy, (3,))):
            call(*arguments)
            states.append(state(nights))
        while len(states) > 1:
            self.assertEqual(state(nights), states.pop())
            nights.undo()
        self.assertEqual(state(nights), states[0])


class TreesTest(UnknownTreeTest):
    def test_no_list_for_more_than_six_cells(self):
        for cells in range(7, 11):
            nights = Nights(cells, circle(cells))
            error = self.raised(InvalidCells, nights.trees)
            self.assertEqual(error.cells, cells)
            for first in range(1, cells):
                nights.has(first, first + 1)
            self.assertEqual(nights.count(), 1)
            self.assertEqual(self.raised(InvalidCells, nights.trees).cells, cells)

    def test_all_trees_of_six_cells_that_fit_one_night(self):
        nights = Nights(6, circle(6))
        found = nights.trees()
        self.assertEqual(found, [web for web in OF_CELLS[6] if is_drawn(web, circle(6))])
        self.assertEqual(len(found), 273)
        self.assertEqual(found, sorted(found))
        self.assertTrue(all(type(web) is list for web in found))

    def test_a_tree_of_many_cells(self):
        for cells in range(7, 11):
            numbers = Numbers(cells + 20)
            log = numbers.mixed(some_tree(cells, cells))
            nights = Nights(cells, ends_by_walking(cells, log))
            for _ in range(3):
                web = nights.a_tree()
                self.assertTrue(nights.fits(web))
                self.assertTrue(all(fits_night(cells, web, row) for row in nights.nights))
                self.assertTrue(all(is_so(web, told) for told in nights.known))
                nights.see(ends_by_walking(cells, numbers.mixed(log)))
                there = [told for told in all_told(cells) if is_so(log, told)]
                tell(nights, there[numbers.below(len(there))])


class GreatestTest(UnknownTreeTest):
    """The greatest inputs that the bounds allow."""

    def ask(self, nights, limit):
        """Call each method that changes nothing."""
        for call in (nights.count, nights.a_tree, nights.stretches, lambda: nights.may(1, 10),
                     lambda: nights.must(10, 1), lambda: nights.fits([(1, cell) for cell in range(2, 11)]),
                     lambda: nights.nights, lambda: nights.known, lambda: len(nights)):
            begun = time.monotonic()
            call()
            self.assertLess(time.monotonic() - begun, limit)

    def test_ten_cells_and_one_night(self):
        self.ask(Nights(10, Numbers(1).night(10)), 2)

    def test_two_thousand_nights(self):
        begun = time.monotonic()
        nights = Nights(10, circle(10))
        for _ in range(1999):
            nights.see(circle(10))
        self.assertEqual((len(nights), nights.count()), (2000, 246675))
        self.assertLess(time.monotonic() - begun, 20)
        self.ask(nights, 2)
        for _ in range(1999):
            nights.undo()
        self.assertEqual(len(nights), 1)

    def test_two_thousand_other_things(self):
        begun = time.monotonic()
        web = [(cell, cell + 1) for cell in range(1, 10)]
        nights = Nights(10, circle(10))
        there = [told for told in all_told(10) if is_so(web, told)]
        for at in range(1999):
            tell(nights, there[at % len(there)])
        self.assertEqual((len(nights.known), nights.count(), nights.a_tree()), (1999, 1, web))
        self.assertLess(time.monotonic() - begun, 20)
        self.ask(nights, 2)

    def test_trees_of_six_cells(self):
        begun = time.monotonic()
        nights = Nights(6, circle(6))
        nights.busy(1)
        nights.lacks(2, 5)
        nights.trees()
        self.assertLess(time.monotonic() - begun, 2)


if __name__ == "__main__":
    unittest.main()
