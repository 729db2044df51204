"""Shapes: what the rules tell of each box, and where it comes from."""

from panehouse.boxes import boxes_of, need_document, way_to
from panehouse.errors import NoRule
from panehouse.rules import is_property, need_rules, plain_shape, test_of

GOES_DOWN = ("gap", "ink")


def places_for(rules, way):
    places = []
    for place, rule in enumerate(rules):
        is_for = test_of(rule[1])
        if is_for(way):
            places.append(place)
    # sorted leaves like ranks in their order, so the strongest rule stands last.
    return sorted(places, key=lambda place: rules[place][0])


def shape_of(rules, way, shapes):
    shape = plain_shape()
    if len(way) > 1:
        for word in GOES_DOWN:
            shape[word] = shapes[way[-2][1]][word]
    for place in places_for(rules, way):
        for word, value in rules[place][2]:
            shape[word] = value
    return shape


def shapes_of(doc, rules):
    need_document(doc)
    need_rules(rules)
    shapes = {}
    for box in boxes_of(doc):
        shapes[box[1]] = shape_of(rules, way_to(doc, box[1]), shapes)
    return shapes


def sets_it(rule, word):
    return word in [pair[0] for pair in rule[2]]


def cause(doc, rules, name, word):
    need_document(doc)
    need_rules(rules)
    way = way_to(doc, name)
    if not is_property(word):
        raise NoRule("no property")
    places = [place for place in places_for(rules, way) if sets_it(rules[place], word)]
    if places:
        return ("rule", places[-1])
    if word in GOES_DOWN and len(way) > 1:
        return ("from", way[-2][1])
    return ("plain",)
