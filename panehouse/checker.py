"""The checker: which boxes fail by the numbers of a layout and papers. It lays nothing."""

from panehouse.across import asked_wide, need_of
from panehouse.boxes import boxes_of, kid_names
from panehouse.down import column_rounds, heights_of, natural_of
from panehouse.errors import NoShare
from panehouse.laying import MOST_PAGE, need_page, root_high
from panehouse.lines import lines_of, rounds_of, widths_of
from panehouse.papers import named_lines
from panehouse.places import spots_of
from panehouse.plain import is_number, is_within


def is_whole(thing):
    return isinstance(thing, int) and not isinstance(thing, bool)


def is_size(thing):
    return is_within(thing, 0, MOST_PAGE)


def is_spot(thing):
    if not isinstance(thing, tuple) or len(thing) != 4:
        return False
    return is_whole(thing[0]) and is_whole(thing[1]) and is_size(thing[2]) and is_size(thing[3])


def is_paper(thing):
    if not isinstance(thing, tuple) or len(thing) != 6:
        return False
    if not all([is_size(size) for size in thing[:3]]) or thing[0] > thing[1]:
        return False
    return all([isinstance(rows, list) for rows in thing[3:]])


def is_same(thing, told):
    # Like things aren't enough: 1 == True for Python, and what stands there may be of any kind.
    if isinstance(told, list):
        if not isinstance(thing, list) or len(thing) != len(told):
            return False
        return all([is_same(one, other) for one, other in zip(thing, told)])
    if isinstance(told, str):
        return isinstance(thing, str) and thing == told
    return is_number(thing) and thing == told


def across_holds(box, shapes, needs, spot, paper, widths):
    wide = spot[2]
    if paper[:2] != need_of(box, shapes, needs):
        return False
    if not is_same(paper[3], named_lines(box, lines_of(box, shapes, needs, wide))):
        return False
    return is_same(paper[4], rounds_of(box, shapes, needs, wide)) and widths == widths_of(box, shapes, needs, wide)


def down_holds(box, shapes, naturals, lines, spot, paper, kid_spots):
    if paper[2] != natural_of(box, shapes, naturals, lines, spot[2]):
        return False
    told = heights_of(box, shapes, naturals, lines, spot[3])
    if not is_same(paper[5], column_rounds(box, shapes, naturals, spot[3])):
        return False
    if [one[3] for one in kid_spots] != told[1]:
        return False
    widths = [one[2] for one in kid_spots]
    return [one[:2] for one in kid_spots] == spots_of(box, shapes, lines, widths, told[0], spot)


def equations_hold(box, shapes, layout, papers):
    names = kid_names(box)
    needs = dict([(name, papers[name][:2]) for name in names])
    naturals = dict([(name, papers[name][2]) for name in names])
    spot = layout[box[1]]
    paper = papers[box[1]]
    kid_spots = [layout[name] for name in names]
    if not across_holds(box, shapes, needs, spot, paper, [one[2] for one in kid_spots]):
        return False
    lines = lines_of(box, shapes, needs, spot[2])
    return down_holds(box, shapes, naturals, lines, spot, paper, kid_spots)


def box_holds(box, shapes, layout, papers):
    for name in [box[1]] + kid_names(box):
        if not is_spot(layout.get(name)) or not is_paper(papers.get(name)):
            return False
    try:
        return equations_hold(box, shapes, layout, papers)
    except NoShare:
        # What stands there can't be filled, so the equation can't be told.
        return False


def root_holds(doc, shapes, wide, high, layout, papers):
    if not box_holds(doc, shapes, layout, papers):
        return False
    shape = shapes[doc[1]]
    paper = papers[doc[1]]
    return layout[doc[1]] == (0, 0, asked_wide(shape, paper[:2], wide), root_high(shape, paper[2], high))


def failing(doc, shapes, wide, high, layout, papers):
    need_page(wide, high)
    boxes = boxes_of(doc)
    names = [box[1] for box in boxes[1:] if not box_holds(box, shapes, layout, papers)]
    if root_holds(doc, shapes, wide, high, layout, papers):
        return names
    return [doc[1]] + names
