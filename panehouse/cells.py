"""Cells: a page drawn."""

from panehouse.across import inside_of
from panehouse.boxes import boxes_of
from panehouse.broken import broken
from panehouse.laying import need_page
from panehouse.points import seen_part


def inked(text, ink):
    if ink == "great":
        return text.upper()
    if ink == "small":
        return text.lower()
    return text


def draw_row(rows, text, x, y, part):
    # Of the text only what lies in the seen part is drawn.
    begin = max(x, part[0])
    end = min(x + len(text), part[0] + part[2])
    if begin < end and part[1] <= y < part[1] + part[3]:
        rows[y] = rows[y][:begin] + text[begin - x:end - x] + rows[y][end:]


def draw_fill(rows, sign, part):
    for y in range(part[1], part[1] + part[3]):
        draw_row(rows, sign * part[2], part[0], y, part)


def draw_text(rows, text, shape, spot, part):
    x = spot[0] + shape["pad"]
    y = spot[1] + shape["pad"]
    for at, row in enumerate(broken(text, inside_of(shape, spot[2]))):
        draw_row(rows, inked(row, shape["ink"]), x, y + at, part)


def draw_box(rows, box, shape, spot, part):
    if shape["fill"] != "":
        draw_fill(rows, shape["fill"], part)
    if box[0] == "words":
        draw_text(rows, box[3], shape, spot, part)


def draw_page(doc, shapes, layout, wide, high):
    need_page(wide, high)
    rows = [" " * wide for y in range(high)]
    for box in boxes_of(doc):
        name = box[1]
        part = seen_part(doc, shapes, layout, wide, high, name)
        if part is not None:
            draw_box(rows, box, shapes[name], layout[name], part)
    return rows
