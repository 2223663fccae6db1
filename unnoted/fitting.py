"""Which trees fit what is known: the stretches of rounds, and the number of the trees whose sides are stretches.

A row is a round from the cell 1 on. A span of it is what stands from a place on up to another place, which is not in
it. Facts are a dict with what is known beside nights for its keys, told as `Nights.known` tells it.
"""

from unnoted.logs import orders_of, rounds_of
from unnoted.splits import splits_of
from unnoted.webs import exchange_of


def is_stretch(row, side):
    """Whether cells without the cell 1 are a stretch of a row."""
    places = [row.index(cell) for cell in side]
    return max(places) - min(places) == len(side) - 1


def is_outcome(cells, web, ends):
    """Whether an arrangement is an outcome of a tree."""
    rows = rounds_of(ends)
    return len(rows) == 1 and all([is_stretch(rows[0], side) for side in splits_of(cells, web)])


def facts_hold(cells, web, facts):
    """Whether all facts hold for a tree."""
    near = orders_of(cells, web)
    for told in facts:
        if told[0] == "busy":
            if len(near[told[1] - 1]) < 2:
                return False
        elif (told[1:] in web) != (told[0] == "has"):
            return False
    return True


def spans_of(row):
    """The tuples of the places of all spans of a row that have cells, but not the cell 1; shorter ones first."""
    many = len(row)
    return [(start, start + length) for length in range(1, many) for start in range(1, many - length + 1)]


def sides_in(row):
    """The sides that are stretches of a row, each without the cell 1, ascending."""
    spans = [(start, end) for start, end in spans_of(row) if 2 <= end - start <= len(row) - 2]
    return sorted([tuple(sorted(row[start:end])) for start, end in spans])


def count_fitting(row, sides, facts):
    """The number of trees all of whose sides are among some stretches of a row, and for which all facts hold.

    The cells of a span hang at a cell outside by one exchange, or are parted into spans that hang there.
    """
    many = len(row)
    if many == 1:
        return 0 if ("busy", 1) in facts else 1
    # For each span, by the cells outside, in how many ways its cells hang there.
    hung = {}
    # In how many ways a span is parted into spans that hang at the cell ahead of it, or at the one behind it.
    ahead = {(place, place): 1 for place in range(1, many + 1)}
    behind = {(place, place): 1 for place in range(1, many + 1)}
    for start, end in spans_of(row):
        inside = row[start:end]
        outside = row[:start] + row[end:]
        ways = {cell: 0 for cell in outside}
        if end - start in (1, many - 1) or tuple(sorted(inside)) in sides:
            for place, cell in joints(inside, outside, facts):
                ways[cell] += behind[(start, start + place)] * ahead[(start + place + 1, end)]
        hung[(start, end)] = ways
        before = row[start - 1]
        # Behind the last place comes the cell 1 again.
        after = row[end % many]
        ahead[(start, end)] = sum([ahead[(start, at)] * hung[(at, end)][before] for at in range(start, end)])
        behind[(start, end)] = sum([hung[(start, at)][after] * behind[(at, end)] for at in range(start + 1, end + 1)])
    return ahead[(1, many)]


def joints(inside, outside, facts):
    """The tuples of a place inside and a cell outside whose exchange can be the only one from inside to outside."""
    for cells in (inside, outside):
        if len(cells) == 1 and ("busy", cells[0]) in facts:
            return []
    crossing = [told for told in facts if told[0] == "has" and (told[1] in inside) != (told[2] in inside)]
    found = []
    for place, top in enumerate(inside):
        for cell in outside:
            exchange = exchange_of(top, cell)
            if ("lacks", *exchange) not in facts and all([told[1:] == exchange for told in crossing]):
                found.append((place, cell))
    return found
