"""Turning: the cells that are unlike between two drawings."""

from panehouse.errors import NoPage
from panehouse.plain import is_within


def need_same_size(one, other):
    if [len(row) for row in one] != [len(row) for row in other]:
        raise NoPage("drawings of unlike sizes")


def cells_between(one, other):
    need_same_size(one, other)
    cells = []
    for y, row in enumerate(other):
        for x, sign in enumerate(row):
            if one[y][x] != sign:
                cells.append((y, x, sign))
    return cells


def need_cell(rows, y, x):
    if not is_within(y, 0, len(rows) - 1) or not is_within(x, 0, len(rows[y]) - 1):
        raise NoPage("a cell beyond the drawing")


def with_cells(rows, cells):
    drawn = [list(row) for row in rows]
    for y, x, sign in cells:
        need_cell(drawn, y, x)
        drawn[y][x] = sign
    return ["".join(row) for row in drawn]
