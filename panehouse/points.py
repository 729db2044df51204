"""Points: which part of a box is seen, and which boxes are under a point."""

from panehouse.boxes import names_of, way_to


def overlap(one, other):
    x = max(one[0], other[0])
    y = max(one[1], other[1])
    wide = min(one[0] + one[2], other[0] + other[2]) - x
    high = min(one[1] + one[3], other[1] + other[3]) - y
    return (x, y, max(0, wide), max(0, high))


def seen_part(doc, shapes, layout, wide, high, name):
    way = way_to(doc, name)
    part = overlap(layout[name], (0, 0, wide, high))
    for about in way[:-1]:
        # A box that is told over lets what is within it be seen beyond its own rectangle.
        if not shapes[about[1]]["over"]:
            part = overlap(part, layout[about[1]])
    if part[2] == 0 or part[3] == 0:
        return None
    return part


def has_cell(part, x, y):
    if part is None:
        return False
    return part[0] <= x < part[0] + part[2] and part[1] <= y < part[1] + part[3]


def all_at(doc, shapes, layout, wide, high, x, y):
    names = []
    for name in names_of(doc):
        if has_cell(seen_part(doc, shapes, layout, wide, high, name), x, y):
            names.append(name)
    return names


def top_at(doc, shapes, layout, wide, high, x, y):
    names = all_at(doc, shapes, layout, wide, high, x, y)
    # What is drawn last lies on top.
    return names[-1] if names else None
