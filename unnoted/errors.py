"""The errors of the package.

No message shows a thing that was passed: it may be of any kind, and showing it may fail.
"""


class InvalidCells(ValueError):
    """A number of cells that is none."""

    def __init__(self, cells):
        ValueError.__init__(self, "not a number of cells")
        self.cells = cells


class InvalidWeb(ValueError):
    """A web that is none; the index is None if it is not even a list."""

    def __init__(self, index):
        ValueError.__init__(self, f"the web is not as described (index: {index})")
        self.index = index


class InvalidLog(ValueError):
    """A log that is none; the index is None if it is not even a list."""

    def __init__(self, index):
        ValueError.__init__(self, f"the log is not as described (index: {index})")
        self.index = index


class InvalidEnds(ValueError):
    """An arrangement that is none; the index is None if it is not a list of the right length."""

    def __init__(self, index):
        ValueError.__init__(self, f"the arrangement is not as described (index: {index})")
        self.index = index


class InvalidSides(ValueError):
    """Wished sides that are none; the index is None if they are not even a list."""

    def __init__(self, index):
        ValueError.__init__(self, f"the list of sides is not as described (index: {index})")
        self.index = index


class InvalidAhead(ValueError):
    """Cells ahead in a ring that are none; the index is None if they are not a list of the right length."""

    def __init__(self, index):
        ValueError.__init__(self, f"the list of cells ahead is not as described (index: {index})")
        self.index = index


class InvalidValues(ValueError):
    """Values that are not a list of as many things as there are cells."""


class UnequalCells(ValueError):
    """Two arrangements with different numbers of cells."""

    def __init__(self, first, second):
        ValueError.__init__(self, "two arrangements with different numbers of cells")
        self.first = first
        self.second = second


class InvalidNumber(ValueError):
    """A number that is none, or a number of exchanges that is too great."""

    def __init__(self, number):
        ValueError.__init__(self, "not a number that can be taken here")
        self.number = number


class NotTree(ValueError):
    """A web that is not a tree, where a tree is needed."""


class Unfit(ValueError):
    """Something that does not fit the tree, or that no tree fits."""


class Crossing(ValueError):
    """Two wished splits that cross, told by their indexes."""

    def __init__(self, first, second):
        ValueError.__init__(self, "two of the splits cross")
        self.first = first
        self.second = second


class NoMiddle(ValueError):
    """Wished splits that stand round a bundle without a cell, told by their indexes."""

    def __init__(self, indexes):
        ValueError.__init__(self, "some of the splits leave a bundle without a cell")
        self.indexes = indexes


class UnknownCell(LookupError):
    """A cell that is none."""

    def __init__(self, cell):
        LookupError.__init__(self, "not a cell")
        self.cell = cell


class NoLog(LookupError):
    """A log that was asked for does not exist."""


class NothingToUndo(LookupError):
    """There is nothing that could be taken back."""
