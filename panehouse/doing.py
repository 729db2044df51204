"""Doing: a change done to a document, and the change that leads back."""

from panehouse.boxes import MOST_BOXES, boxes_of, kid_names, need_document
from panehouse.errors import NoBox, NoChange
from panehouse.plain import is_name
from panehouse.telling import change_between

# How many things an entry of each word has, the word itself among them.
LENGTHS = {"gone": 2, "new": 5, "set": 4, "kids": 3, "root": 2}


def are_names(thing):
    return isinstance(thing, tuple) and all([is_name(name) for name in thing])


def is_entry(thing):
    if not isinstance(thing, tuple) or len(thing) == 0 or not isinstance(thing[0], str):
        return False
    if len(thing) != LENGTHS.get(thing[0]) or not is_name(thing[1]):
        return False
    return thing[0] != "kids" or are_names(thing[2])


def entries_of(change, word):
    return [entry for entry in change if entry[0] == word]


def need_change(change):
    if not isinstance(change, list) or not all([is_entry(entry) for entry in change]):
        raise NoChange("no list of entries")
    if len(entries_of(change, "root")) > 1:
        raise NoChange("more than one root")
    # Of one word, so that a gone box and a new one may have one name.
    if len(set([entry[:2] for entry in change])) != len(change):
        raise NoChange("one name twice in entries of one word")


def need_there(there, name):
    if name not in there:
        raise NoChange("a box that isn't there")


def loose_boxes(doc):
    # Each box by its name, with its kids' names in the place of its kids.
    return dict([(box[1], box[:4] + (kid_names(box),)) for box in boxes_of(doc)])


def take_gone(there, change):
    for word, name in entries_of(change, "gone"):
        need_there(there, name)
        there.pop(name)


def put_set(there, change):
    for word, name, tags, more in entries_of(change, "set"):
        need_there(there, name)
        box = there[name]
        there[name] = (box[0], name, tags, more, box[4])


def put_new(there, change):
    for word, name, kind, tags, more in entries_of(change, "new"):
        if name in there:
            raise NoChange("a new box of a name that is there")
        there[name] = (kind, name, tags, more, [])


def put_kids(there, change):
    for word, name, names in entries_of(change, "kids"):
        need_there(there, name)
        box = there[name]
        there[name] = (box[0], name, box[2], box[3], list(names))


def need_each_once(there, root):
    if len(there) > MOST_BOXES:
        raise NoChange("more than 40 boxes")
    stood = {}
    waiting = [root]
    while waiting:
        name = waiting.pop()
        need_there(there, name)
        if name in stood:
            raise NoChange("a box that stands twice")
        stood[name] = True
        waiting.extend(there[name][4])
    if len(stood) != len(there):
        raise NoChange("a box that stands nowhere")


def built(there, name):
    box = there[name]
    return (box[0], name, box[2], box[3], tuple([built(there, kid) for kid in box[4]]))


def with_change(doc, change):
    need_document(doc)
    need_change(change)
    there = loose_boxes(doc)
    take_gone(there, change)
    # Set ahead of the new ones, as only what was there can be set.
    put_set(there, change)
    put_new(there, change)
    put_kids(there, change)
    root = doc[1]
    for word, name in entries_of(change, "root"):
        root = name
    need_each_once(there, root)
    came = built(there, root)
    try:
        need_document(came)
    except NoBox as e:
        raise NoChange("what comes is no document") from e
    return came


def change_back(doc, change):
    return change_between(with_change(doc, change), doc)
