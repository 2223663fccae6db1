"""Arrangements: where the things of all cells end, made one after the other, back, or many times."""

from unnoted.checks import MOST_CELLS, check_cell, check_cells, check_ends, check_log, is_whole
from unnoted.errors import InvalidEnds, InvalidNumber, InvalidValues, UnequalCells
from unnoted.logs import ends_of, rounds_of


class Arrangement:
    """An end for the thing of each of 1 to 16 cells, all different."""

    def __init__(self, ends):
        if not isinstance(ends, list) or not 1 <= len(ends) <= MOST_CELLS:
            raise InvalidEnds(None)
        check_ends(len(ends), ends)
        self._ends = list(ends)

    @classmethod
    def still(cls, cells):
        """The one in which each thing stays."""
        check_cells(cells)
        return cls(list(range(1, cells + 1)))

    @classmethod
    def after(cls, cells, log):
        """The one with the ends of a log."""
        check_cells(cells)
        check_log(cells, log)
        return cls(ends_of(cells, log))

    @property
    def ends(self):
        """The list of the ends."""
        return list(self._ends)

    @property
    def rounds(self):
        """The list of the rounds, each from its least cell on, in the order of these cells."""
        return rounds_of(self._ends)

    def repeated(self, number):
        """This one made so many times, or made back so many times if the number is below 0."""
        if not is_whole(number):
            raise InvalidNumber(number)
        return Arrangement(repeated_row(self._ends, number))

    def __len__(self):
        return len(self._ends)

    def __eq__(self, other):
        return isinstance(other, Arrangement) and self._ends == other._ends

    def __getitem__(self, at):
        check_cell(len(self._ends), at)
        return self._ends[at - 1]

    # Without this Python would ask for the cell 0, and so on, to iterate.
    def __iter__(self):
        raise TypeError("an arrangement is not iterated over; its list of ends is")

    def __call__(self, values):
        """A new list with each value in the place of its end."""
        if not isinstance(values, list) or len(values) != len(self._ends):
            raise InvalidValues("not a list of as many things as there are cells")
        found = list(values)
        for end, value in zip(self._ends, values):
            found[end - 1] = value
        return found

    def __mul__(self, other):
        if not isinstance(other, Arrangement):
            return NotImplemented
        return Arrangement(row_after(self._ends, other._ends))

    def __imul__(self, other):
        if not isinstance(other, Arrangement):
            return NotImplemented
        self._ends = row_after(self._ends, other._ends)
        return self

    def __invert__(self):
        return Arrangement(repeated_row(self._ends, -1))

    def __pow__(self, other):
        if not is_whole(other) or other < 0:
            return NotImplemented
        return Arrangement(repeated_row(self._ends, other))

    def __xor__(self, other):
        if not isinstance(other, Arrangement):
            return NotImplemented
        return Arrangement(row_named(self._ends, other._ends))

    def __abs__(self):
        # Each exchange makes one round of two, or two of one; with no exchange all rounds are of one cell.
        return len(self._ends) - len(rounds_of(self._ends))


def check_equal(row, other):
    """Raise UnequalCells if two lists of ends have different lengths."""
    if len(row) != len(other):
        raise UnequalCells(len(row), len(other))


def row_after(row, other):
    """The ends of what comes out if the things end by one list of ends and then by another one."""
    check_equal(row, other)
    return [other[end - 1] for end in row]


def row_named(row, names):
    """The ends with each cell named by its end in another list of ends."""
    check_equal(row, names)
    found = list(row)
    for cell, end in enumerate(row, 1):
        found[names[cell - 1] - 1] = names[end - 1]
    return found


def repeated_row(row, number):
    """The ends if all is made so many times, or back so many times if the number is below 0."""
    found = list(row)
    for cells in rounds_of(row):
        for at, cell in enumerate(cells):
            # A thing is where it was after as many times as its round has cells, however great the number is.
            found[cell - 1] = cells[(at + number) % len(cells)]
    return found
