"""Across: how wide each box must be at least, and to hold all."""

from panehouse.boxes import boxes_of
from panehouse.broken import limited


def inside_of(shape, size):
    return max(0, size - 2 * shape["pad"])


def gaps_of(shape, many):
    return shape["gap"] * max(0, many - 1)


def room_of(shape, size, many):
    return max(0, inside_of(shape, size) - gaps_of(shape, many))


def limited_wide(shape, wide):
    return limited(wide, shape["leastw"], shape["mostw"])


def words_needs(text):
    return (max([len(word) for word in text.split(" ")]), len(text))


def kids_needs(box, shape, pairs):
    leasts = [least for least, hold in pairs]
    holds = [hold for least, hold in pairs]
    gaps = gaps_of(shape, len(pairs))
    if box[0] == "row":
        return (sum(leasts) + gaps, sum(holds) + gaps)
    if box[0] == "flow":
        return (max(leasts, default=0), sum(holds) + gaps)
    many = 1
    if box[0] == "grid":
        # A grid has all its columns, whether or not there are kids for them.
        many = box[3]
    gaps = gaps_of(shape, many)
    return (many * max(leasts, default=0) + gaps, many * max(holds, default=0) + gaps)


def need_of(box, shapes, needs):
    shape = shapes[box[1]]
    if box[0] == "words":
        inner = words_needs(box[3])
    else:
        inner = kids_needs(box, shape, [needs[kid[1]] for kid in box[4]])
    sizes = [size + 2 * shape["pad"] for size in inner]
    if shape["wide"][0] == "fixed":
        sizes = [shape["wide"][1] for size in inner]
    return tuple([limited_wide(shape, size) for size in sizes])


def needs_of(doc, shapes):
    boxes = boxes_of(doc)
    needs = {}
    # From the end on, so that the kids' needs are there ahead of the box's own.
    for box in reversed(boxes):
        needs[box[1]] = need_of(box, shapes, needs)
    return dict([(box[1], needs[box[1]]) for box in boxes])


def asked_wide(shape, needs, wide):
    asked = shape["wide"]
    if asked[0] == "fixed":
        return limited_wide(shape, asked[1])
    if asked[0] == "share":
        return limited_wide(shape, wide)
    return limited_wide(shape, max(needs[0], min(needs[1], wide)))
