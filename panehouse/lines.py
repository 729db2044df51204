"""Lines: how a box's kids stand in it, and how wide each is."""

from panehouse.across import asked_wide, inside_of, limited_wide, room_of
from panehouse.boxes import kid_names
from panehouse.fills import fill_rounds, fill_sizes
from panehouse.shares import share_out

FILLED = ("row", "flow")


def part_in_row(shape, need):
    asked = shape["wide"]
    least = need[0]
    hold = need[1]
    if asked[0] == "fixed":
        size = limited_wide(shape, asked[1])
        return (size, size, size, 0)
    if asked[0] == "share":
        return (least, least, max(least, shape["mostw"]), asked[1])
    return (hold, least, hold, 0)


def part_in_flow(shape, need, inside):
    if shape["wide"][0] != "hold":
        return part_in_row(shape, need)
    begin = asked_wide(shape, need, inside)
    return (begin, need[0], begin, 0)


def parts_in(box, shapes, needs, wide):
    names = kid_names(box)
    if box[0] == "row":
        return [part_in_row(shapes[name], needs[name]) for name in names]
    inside = inside_of(shapes[box[1]], wide)
    return [part_in_flow(shapes[name], needs[name], inside) for name in names]


def flow_lines(begins, gap, inside):
    lines = []
    end = 0
    for place, begin in enumerate(begins):
        end = end + gap + begin
        if not lines or end > inside:
            lines.append([])
            end = begin
        lines[-1].append(place)
    return lines


def lines_of(box, shapes, needs, wide):
    many = len(box[4])
    places = list(range(many))
    if many == 0:
        return []
    if box[0] == "column":
        return [[place] for place in places]
    if box[0] == "grid":
        return [places[at:at + box[3]] for at in range(0, many, box[3])]
    if box[0] == "flow":
        shape = shapes[box[1]]
        begins = [part[0] for part in parts_in(box, shapes, needs, wide)]
        return flow_lines(begins, shape["gap"], inside_of(shape, wide))
    return [places]


def fills_in(box, shapes, needs, wide):
    # Of each line what is to be filled, and the parts that fill it.
    parts = parts_in(box, shapes, needs, wide)
    lines = lines_of(box, shapes, needs, wide)
    return [(room_of(shapes[box[1]], wide, len(line)), [parts[place] for place in line]) for line in lines]


def cells_of(box, shapes, wide):
    if box[0] != "grid":
        return []
    return share_out(room_of(shapes[box[1]], wide, box[3]), [1 for column in range(box[3])])


def widths_in_grid(box, shapes, needs, wide):
    cells = cells_of(box, shapes, wide)
    widths = []
    for place, kid in enumerate(box[4]):
        cell = cells[place % box[3]]
        widths.append(min(cell, asked_wide(shapes[kid[1]], needs[kid[1]], cell)))
    return widths


def widths_of(box, shapes, needs, wide):
    if box[0] == "grid":
        return widths_in_grid(box, shapes, needs, wide)
    if box[0] in FILLED:
        widths = []
        for total, parts in fills_in(box, shapes, needs, wide):
            widths.extend(fill_sizes(total, parts))
        return widths
    inside = inside_of(shapes[box[1]], wide)
    return [asked_wide(shapes[kid[1]], needs[kid[1]], inside) for kid in box[4]]


def rounds_of(box, shapes, needs, wide):
    if box[0] not in FILLED:
        return []
    return [fill_rounds(total, parts) for total, parts in fills_in(box, shapes, needs, wide)]
