"""Places: where a box's kids stand."""

from panehouse.lines import cells_of


def steps_in(box, shapes, line, widths, wide):
    # A kid of a grid stands in a cell, which may be wider than the kid is.
    if box[0] == "grid":
        return cells_of(box, shapes, wide)
    return [widths[place] for place in line]


def spots_of(box, shapes, lines, widths, highs, spot):
    shape = shapes[box[1]]
    spots = [(0, 0) for kid in box[4]]
    y = spot[1] + shape["pad"]
    for line, high in zip(lines, highs):
        x = spot[0] + shape["pad"]
        for place, step in zip(line, steps_in(box, shapes, line, widths, spot[2])):
            spots[place] = (x, y)
            if box[0] != "pile":
                x = x + step + shape["gap"]
        y = y + high + shape["gap"]
    return spots
