"""Kinds: boxes looked at, a class for each kind."""


class Kind:
    def __init__(self, box):
        self.box = box
        self.name = box[1]
        self.tags = box[2]
        self.more = box[3]

    def word(self):
        return self.box[0]

    def kids(self):
        # Made anew at each call, so that what the asker does to them stays there.
        return [kind_of(kid) for kid in self.box[4]]


class Blank(Kind):
    pass


class Words(Kind):
    pass


class Row(Kind):
    pass


class Flow(Kind):
    pass


class Column(Kind):
    pass


class Grid(Kind):
    pass


class Pile(Kind):
    pass


def kind_of(box):
    word = box[0]
    if word == "blank":
        return Blank(box)
    if word == "words":
        return Words(box)
    if word == "row":
        return Row(box)
    if word == "flow":
        return Flow(box)
    if word == "column":
        return Column(box)
    if word == "grid":
        return Grid(box)
    return Pile(box)
