"""Edits: another document made of a document."""

from panehouse.boxes import KIDLESS, need_document, way_to
from panehouse.errors import NoBox, NoPlace
from panehouse.plain import is_within


def way_in(doc, name):
    need_document(doc)
    return way_to(doc, name)


def with_kids(box, kids):
    return (box[0], box[1], box[2], box[3], tuple(kids))


def replaced(way, boxes):
    # Only the boxes on the way are built anew; the last one of them gives its place to boxes.
    for at in range(len(way) - 2, -1, -1):
        kids = []
        for kid in way[at][4]:
            kids.extend(boxes if kid[1] == way[at + 1][1] else [kid])
        boxes = [with_kids(way[at], kids)]
    return boxes[0]


def checked(way, box):
    doc = replaced(way, [box])
    need_document(doc)
    return doc


def with_text(doc, name, text):
    way = way_in(doc, name)
    box = way[-1]
    if box[0] != "words":
        raise NoBox("only words have a text")
    return checked(way, (box[0], box[1], box[2], text, box[4]))


def with_tags(doc, name, tags):
    way = way_in(doc, name)
    box = way[-1]
    return checked(way, (box[0], box[1], tags, box[3], box[4]))


def place_in(box, place):
    if box[0] in KIDLESS:
        raise NoPlace("blank and words have no kids")
    if place is None:
        return len(box[4])
    if not is_within(place, 0, len(box[4])):
        raise NoPlace("no place from 0 to how many kids there are")
    return place


def with_kid(doc, name, box, place=None):
    way = way_in(doc, name)
    about = way[-1]
    at = place_in(about, place)
    return checked(way, with_kids(about, about[4][:at] + (box,) + about[4][at:]))


def without(doc, name):
    way = way_in(doc, name)
    if len(way) == 1:
        raise NoPlace("the root can't go")
    return replaced(way, [])
