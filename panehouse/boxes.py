"""Boxes: what a document is, and looking boxes up in it."""

from panehouse.errors import NoBox, NoName
from panehouse.plain import has_only, is_name, is_within

KINDS = ("blank", "words", "row", "flow", "column", "grid", "pile")
KIDLESS = ("blank", "words")
MOST_TAGS = 4
MOST_KIDS = 12
MOST_COLUMNS = 9
MOST_TEXT_SIGNS = 80
MOST_WORD_SIGNS = 20
MOST_BOXES = 40
MOST_DEEP = 8
TEXT_SIGNS = "ABCDEFGHIJKLMNOPQRSTUVWXYZabcdefghijklmnopqrstuvwxyz0123456789"


def is_kind(thing):
    return isinstance(thing, str) and thing in KINDS


def are_tags(thing):
    if not isinstance(thing, tuple) or len(thing) > MOST_TAGS:
        return False
    return all([is_name(tag) for tag in thing]) and len(set(thing)) == len(thing)


def is_word(text):
    return 1 <= len(text) <= MOST_WORD_SIGNS and has_only(text, TEXT_SIGNS)


def is_words_text(thing):
    if not isinstance(thing, str) or len(thing) > MOST_TEXT_SIGNS:
        return False
    return thing == "" or all([is_word(word) for word in thing.split(" ")])


def is_more(kind, thing):
    if kind == "words":
        return is_words_text(thing)
    if kind == "grid":
        return is_within(thing, 1, MOST_COLUMNS)
    return thing is None


def are_kids(kind, thing):
    most = 0 if kind in KIDLESS else MOST_KIDS
    return isinstance(thing, tuple) and len(thing) <= most


def is_box_alone(thing):
    if not isinstance(thing, tuple) or len(thing) != 5:
        return False
    if not is_kind(thing[0]) or not is_name(thing[1]) or not are_tags(thing[2]):
        return False
    return is_more(thing[0], thing[3]) and are_kids(thing[0], thing[4])


def need_document(thing):
    # Each box is looked at ahead of its kids, and the walk ends at the first bound
    # that is broken: so a thing of any depth or number of boxes is refused soon.
    names = {}
    waiting = [(thing, 1)]
    while waiting:
        entry = waiting.pop()
        box = entry[0]
        deep = entry[1]
        if not is_box_alone(box):
            raise NoBox("something in it is no box")
        if deep > MOST_DEEP:
            raise NoBox("more than 8 deep")
        if box[1] in names:
            raise NoBox("two boxes of one name")
        names[box[1]] = True
        if len(names) > MOST_BOXES:
            raise NoBox("more than 40 boxes")
        waiting.extend([(kid, deep + 1) for kid in box[4]])


def boxes_of(doc):
    boxes = []
    waiting = [doc]
    while waiting:
        box = waiting.pop()
        boxes.append(box)
        # The last one is taken out first, so the first kid must lie last.
        waiting.extend(list(reversed(box[4])))
    return boxes


def kid_names(box):
    return [kid[1] for kid in box[4]]


def names_of(doc):
    return [box[1] for box in boxes_of(doc)]


def way_to(doc, name):
    # Only a text is compared: other things may call themselves like any name.
    waiting = [[doc]] if isinstance(name, str) else []
    while waiting:
        way = waiting.pop()
        if way[-1][1] == name:
            return way
        waiting.extend([way + [kid] for kid in way[-1][4]])
    raise NoName("no box of that name")


def box_of(doc, name):
    return way_to(doc, name)[-1]


def parent_of(doc, name):
    way = way_to(doc, name)
    if len(way) == 1:
        return None
    return way[-2][1]
