"""Nights: what the outcomes of some nights, and what is known beside them, tell of an unknown tree."""

from unnoted.checks import check_cell, check_cells, check_ends, check_two_cells
from unnoted.classes import classes
from unnoted.errors import NothingToUndo, Unfit
from unnoted.fitting import count_fitting, facts_hold, is_outcome, is_stretch, sides_in
from unnoted.logs import rounds_of
from unnoted.splits import alike_webs, splits_of, web_with
from unnoted.telling import telling_rows
from unnoted.webs import check_tree, exchange_of, pieces_of, web_without

MOST_OF_NIGHTS = 10
MOST_OF_TREES = 6


def telling_nights(cells, web):
    """A list of as few outcomes of a tree as tell all that nights can tell of it."""
    check_cells(cells)
    check_tree(cells, web)
    return telling_rows(cells, web)


def parting(cells, web, other):
    """An arrangement that is an outcome of just one of two trees, or None if they have the same outcomes."""
    check_cells(cells)
    check_tree(cells, web)
    check_tree(cells, other)
    # A side of one tree that is none of the other one is no stretch in all nights that tell the other one.
    for one, told in ((web, other), (other, web)):
        for row in telling_rows(cells, told):
            if not is_outcome(cells, one, row):
                return row
    return None


def meetings(cells, web, ends):
    """The list of the pairs of things that meet in a tree if this is what comes out, ascending."""
    check_cells(cells)
    check_tree(cells, web)
    check_ends(cells, ends)
    check_outcome(cells, web, ends)
    return meetings_of(cells, web, ends)


def web_by_meetings(cells, ends, pairs):
    """The tree in which just these pairs of things meet if this is what comes out."""
    check_cells(cells)
    check_ends(cells, ends)
    check_tree(cells, pairs)
    check_outcome(cells, pairs, ends)
    # The pairs are a tree with the same outcome, and the things that meet in it end where the tree has exchanges.
    return sorted([exchange_of(ends[one - 1], ends[two - 1]) for one, two in meetings_of(cells, pairs, ends)])


def check_outcome(cells, web, ends):
    """Raise Unfit if an arrangement is not an outcome of a tree."""
    if not is_outcome(cells, web, ends):
        raise Unfit("the arrangement is not an outcome of the tree")


def meetings_of(cells, web, ends):
    """The pairs of things that meet in a tree that has been checked, with one of its outcomes."""
    found = []
    for exchange in web:
        # Just one thing of each side goes over the exchange, and then it stays on the other side.
        side, rest = pieces_of(cells, web_without(web, exchange))
        gone = [cell for cell in side if ends[cell - 1] in rest] + [cell for cell in rest if ends[cell - 1] in side]
        found.append(exchange_of(gone[0], gone[1]))
    return sorted(found)


def row_of_night(ends):
    """The round of a night from the cell 1 on; raises Unfit if it is not one of all cells."""
    rows = rounds_of(ends)
    if len(rows) > 1:
        raise Unfit("the night is not one round of all cells")
    return rows[0]


def fact_of_two(word, cells, first, second):
    """What is told of the exchange of two cells; raises UnknownCell if they are not two cells."""
    check_two_cells(cells, first, second)
    return (word, *exchange_of(first, second))


class Nights:
    """What is seen and known of an unknown tree on 1 to 10 cells."""

    def __init__(self, cells, ends):
        check_cells(cells, most=MOST_OF_NIGHTS)
        check_ends(cells, ends)
        self._cells = cells
        self._row = row_of_night(ends)
        self._nights = [list(ends)]
        self._known = []
        # For each night the sides that are stretches in it and in all nights before it.
        self._sides = [sides_in(self._row)]
        # For each call that told something whether it told a night.
        self._told_nights = []

    def __len__(self):
        return len(self._nights)

    @property
    def nights(self):
        """The list of the arrangements that were seen."""
        return [list(ends) for ends in self._nights]

    @property
    def known(self):
        """The list of what is known beside the nights, in the order in which it was told."""
        return list(self._known)

    def see(self, ends):
        """Add a night."""
        check_ends(self._cells, ends)
        row = row_of_night(ends)
        sides = [side for side in self._sides[-1] if is_stretch(row, side)]
        if count_fitting(self._row, sides, self._facts()) == 0:
            raise Unfit("no tree fits this night and all else that was told")
        self._nights.append(list(ends))
        self._sides.append(sides)
        self._told_nights.append(True)

    def has(self, first, second):
        """Add that there is an exchange of two cells."""
        self._tell(fact_of_two("has", self._cells, first, second))

    def lacks(self, first, second):
        """Add that there is no exchange of two cells."""
        self._tell(fact_of_two("lacks", self._cells, first, second))

    def busy(self, cell):
        """Add that a cell has more than one exchange."""
        check_cell(self._cells, cell)
        self._tell(("busy", cell))

    def undo(self):
        """Take back the last call that told something; the first night stays."""
        if len(self._told_nights) == 0:
            raise NothingToUndo("nothing was told behind the first night")
        if self._told_nights.pop():
            self._nights.pop()
            self._sides.pop()
        else:
            self._known.pop()

    def count(self):
        """The number of trees that fit."""
        return count_fitting(self._row, self._sides[-1], self._facts())

    def fits(self, web):
        """Whether a tree fits."""
        check_tree(self._cells, web)
        return self._has_sides(splits_of(self._cells, web)) and facts_hold(self._cells, web, self._facts())

    def may(self, first, second):
        """Whether some tree that fits has an exchange of two cells."""
        return self._count_with(fact_of_two("has", self._cells, first, second)) > 0

    def must(self, first, second):
        """Whether all trees that fit have an exchange of two cells."""
        return self._count_with(fact_of_two("lacks", self._cells, first, second)) == 0

    def a_tree(self):
        """A tree that fits."""
        facts = self._facts()
        found = []
        for first in range(1, self._cells):
            for second in range(first + 1, self._cells + 1):
                more = {**facts, ("has", first, second): True}
                if count_fitting(self._row, self._sides[-1], more) > 0:
                    facts = more
                    found.append((first, second))
        return found

    def trees(self):
        """The list of all trees that fit, ascending, for at most 6 cells."""
        check_cells(self._cells, most=MOST_OF_TREES)
        facts = self._facts()
        found = []
        for sides in classes(self._cells):
            if self._has_sides(sides):
                webs = alike_webs(self._cells, web_with(self._cells, sides))
                found.extend([web for web in webs if facts_hold(self._cells, web, facts)])
        return sorted(found)

    def stretches(self):
        """The list of the sides, each without the cell 1, that are stretches in all nights, ascending."""
        return list(self._sides[-1])

    def _facts(self):
        """What is known beside the nights, each once."""
        return {told: True for told in self._known}

    def _tell(self, told):
        """Add what is known beside the nights."""
        if self._count_with(told) == 0:
            raise Unfit("no tree fits this and all else that was told")
        self._known.append(told)
        self._told_nights.append(False)

    def _count_with(self, told):
        """The number of trees that fit and for which something more holds."""
        return count_fitting(self._row, self._sides[-1], {**self._facts(), told: True})

    def _has_sides(self, sides):
        """Whether all these sides are stretches in all nights."""
        return all([side in self._sides[-1] for side in sides])
