"""Laying: where each box of a document stands on a page, and how wide and high it is."""

from panehouse.across import asked_wide, needs_of
from panehouse.boxes import boxes_of, kid_names
from panehouse.down import column_rounds, heights_of, limited_high, natural_of
from panehouse.errors import NoPage
from panehouse.lines import lines_of, rounds_of, widths_of
from panehouse.places import spots_of
from panehouse.plain import is_within

MOST_PAGE = 400


def need_page(wide, high):
    if not is_within(wide, 0, MOST_PAGE) or not is_within(high, 0, MOST_PAGE):
        raise NoPage("no width and height from 0 to 400")


def root_high(shape, natural, high):
    return limited_high(shape, high) if shape["high"][0] == "share" else natural


class Across:
    def __init__(self, box, shapes, needs, wide):
        self.lines = lines_of(box, shapes, needs, wide)
        self.widths = widths_of(box, shapes, needs, wide)
        self.rounds = rounds_of(box, shapes, needs, wide)


class Down:
    def __init__(self, box, shapes, naturals, across, wide, high):
        told = heights_of(box, shapes, naturals, across.lines, high)
        self.heights = told[1]
        # As if the box stood at 0, 0: so one that only moves keeps them.
        self.spots = spots_of(box, shapes, across.lines, across.widths, told[0], (0, 0, wide, high))
        self.rounds = column_rounds(box, shapes, naturals, high)


# All boxes of a document laid out. Those that take just what they took in a laying ahead
# keep what came of it there: only the others are laid anew.
class Laying:
    def __init__(self, doc, shapes, wide, high, ahead=None):
        self.boxes = boxes_of(doc)
        self.forms = shapes
        self.needs = needs_of(doc, shapes)
        self.wides = {doc[1]: asked_wide(shapes[doc[1]], self.needs[doc[1]], wide)}
        self.naturals = {}
        self.highs = {}
        self.taken_across = {}
        self.taken = {}
        self.across = {}
        self.down = {}
        for box in self.boxes:
            self.lay_across(box, ahead)
        # From the end on, so that the kids' heights are there ahead of the box's own.
        for box in reversed(self.boxes):
            lines = self.across[box[1]].lines
            self.naturals[box[1]] = natural_of(box, shapes, self.naturals, lines, self.wides[box[1]])
        self.highs[doc[1]] = root_high(shapes[doc[1]], self.naturals[doc[1]], high)
        for box in self.boxes:
            self.lay_down(box, ahead)

    def lay_across(self, box, ahead):
        name = box[1]
        names = kid_names(box)
        self.taken_across[name] = (
            (box[0], box[3], names),
            [self.forms[one] for one in [name] + names],
            [self.needs[one] for one in names],
            self.wides[name],
        )
        if ahead is not None and ahead.taken_across.get(name) == self.taken_across[name]:
            self.across[name] = ahead.across[name]
        else:
            self.across[name] = Across(box, self.forms, self.needs, self.wides[name])
        for one, size in zip(names, self.across[name].widths):
            self.wides[one] = size

    def lay_down(self, box, ahead):
        name = box[1]
        names = kid_names(box)
        took = self.taken_across[name]
        self.taken[name] = (
            took[0],
            took[1],
            (took[2], [self.naturals[one] for one in names]),
            took[3],
            self.highs[name],
        )
        if ahead is not None and ahead.taken.get(name) == self.taken[name]:
            self.down[name] = ahead.down[name]
        else:
            self.down[name] = Down(box, self.forms, self.naturals, self.across[name],
                                   self.wides[name], self.highs[name])
        for one, size in zip(names, self.down[name].heights):
            self.highs[one] = size


def spots_in(laying):
    places = {laying.boxes[0][1]: (0, 0)}
    layout = {}
    for box in laying.boxes:
        name = box[1]
        x = places[name][0]
        y = places[name][1]
        layout[name] = (x, y, laying.wides[name], laying.highs[name])
        for kid, spot in zip(kid_names(box), laying.down[name].spots):
            places[kid] = (x + spot[0], y + spot[1])
    return layout


def layout_of(doc, shapes, wide=80, high=24):
    need_page(wide, high)
    return spots_in(Laying(doc, shapes, wide, high))
