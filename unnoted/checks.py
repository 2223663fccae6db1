"""The checks of arguments that several files of the package share."""

from unnoted.errors import InvalidCells, InvalidEnds, InvalidLog, InvalidWeb, UnknownCell

MOST_CELLS = 16


def is_whole(thing):
    """Whether a thing is a whole number."""
    return isinstance(thing, int) and not isinstance(thing, bool)


def is_cell(cells, thing):
    """Whether a thing is one of so many cells."""
    return is_whole(thing) and 1 <= thing <= cells


def is_exchange(cells, thing):
    """Whether a thing is an exchange of two of so many cells."""
    if not isinstance(thing, tuple) or len(thing) != 2:
        return False
    first, second = thing
    return is_cell(cells, first) and is_cell(cells, second) and first < second


def check_cells(cells, least=1, most=MOST_CELLS):
    """Raise InvalidCells if this is not a number of cells within these bounds."""
    if not is_whole(cells) or not least <= cells <= most:
        raise InvalidCells(cells)


def check_web(cells, web):
    """Raise InvalidWeb if this is not a web on so many cells."""
    if not isinstance(web, list):
        raise InvalidWeb(None)
    before = (0, 0)
    for index, thing in enumerate(web):
        if not is_exchange(cells, thing) or thing <= before:
            raise InvalidWeb(index)
        before = thing


def check_log(cells, log):
    """Raise InvalidLog if this is not a log on so many cells."""
    if not isinstance(log, list):
        raise InvalidLog(None)
    seen = set()
    for index, thing in enumerate(log):
        if not is_exchange(cells, thing) or thing in seen:
            raise InvalidLog(index)
        seen.add(thing)


def check_ends(cells, ends):
    """Raise InvalidEnds if this is not an arrangement of so many cells."""
    if not isinstance(ends, list) or len(ends) != cells:
        raise InvalidEnds(None)
    seen = set()
    for index, thing in enumerate(ends):
        if not is_cell(cells, thing) or thing in seen:
            raise InvalidEnds(index)
        seen.add(thing)


def check_cell(cells, cell):
    """Raise UnknownCell if this is not one of so many cells."""
    if not is_cell(cells, cell):
        raise UnknownCell(cell)


def check_two_cells(cells, first, second):
    """Raise UnknownCell if these are not two of so many cells, with None if they are the same one."""
    check_cell(cells, first)
    check_cell(cells, second)
    if first == second:
        raise UnknownCell(None)
