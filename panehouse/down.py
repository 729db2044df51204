"""Down: how high a box is by itself, and how high its lines and kids are."""

from panehouse.across import gaps_of, inside_of, room_of
from panehouse.broken import broken, limited
from panehouse.fills import rounds_till, sizes_behind


def limited_high(shape, high):
    return limited(high, shape["leasth"], shape["mosth"])


def naturals_in(box, naturals):
    return [naturals[kid[1]] for kid in box[4]]


def tallest(sizes, line):
    return max([sizes[place] for place in line], default=0)


def natural_lines(box, naturals, lines):
    sizes = naturals_in(box, naturals)
    return [tallest(sizes, line) for line in lines]


def inner_high(box, shape, naturals, lines, wide):
    if box[0] == "words":
        return len(broken(box[3], inside_of(shape, wide)))
    if box[0] == "pile":
        return max(naturals_in(box, naturals), default=0)
    return sum(natural_lines(box, naturals, lines)) + gaps_of(shape, len(lines))


def natural_of(box, shapes, naturals, lines, wide):
    shape = shapes[box[1]]
    size = inner_high(box, shape, naturals, lines, wide) + 2 * shape["pad"]
    if shape["high"][0] == "fixed":
        size = shape["high"][1]
    return limited_high(shape, size)


def part_in_column(shape, natural):
    if shape["high"][0] == "share":
        return (natural, natural, max(natural, shape["mosth"]), shape["high"][1])
    return (natural, natural, natural, 0)


def column_parts(box, shapes, naturals):
    return [part_in_column(shapes[kid[1]], naturals[kid[1]]) for kid in box[4]]


# A column takes whatever numbers there are, also parts that are too great for stage 1:
# so it isn't filled by fill_rounds, which refuses those.
def column_rounds(box, shapes, naturals, high):
    if box[0] != "column":
        return []
    return rounds_till(room_of(shapes[box[1]], high, len(box[4])), column_parts(box, shapes, naturals))


def column_heights(box, shapes, naturals, high):
    room = room_of(shapes[box[1]], high, len(box[4]))
    return sizes_behind(room, column_parts(box, shapes, naturals), column_rounds(box, shapes, naturals, high))


def line_heights(box, shapes, naturals, lines, high):
    if box[0] == "column":
        return column_heights(box, shapes, naturals, high)
    if box[0] in ("row", "pile"):
        return [inside_of(shapes[box[1]], high) for line in lines]
    return natural_lines(box, naturals, lines)


def kid_height(box, shape, natural, line_high):
    if box[0] == "column":
        return line_high
    if shape["high"][0] == "share":
        return limited_high(shape, line_high)
    return natural


def heights_of(box, shapes, naturals, lines, high):
    highs = line_heights(box, shapes, naturals, lines, high)
    heights = [0 for kid in box[4]]
    for line, line_high in zip(lines, highs):
        for place in line:
            name = box[4][place][1]
            heights[place] = kid_height(box, shapes[name], naturals[name], line_high)
    return (highs, heights)
