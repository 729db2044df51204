"""The names and arguments of the interface are there as they stand."""

import importlib
import inspect
import unittest

FUNCTIONS = {
    "shares": ["share_out(total, weights)", "is_share(total, weights, row)"],
    "fills": ["fill_rounds(total, parts)", "fill_sizes(total, parts)", "is_fill(total, parts, sizes, rows)"],
    "boxes": ["need_document(thing)", "boxes_of(doc)", "names_of(doc)", "box_of(doc, name)", "way_to(doc, name)",
              "parent_of(doc, name)"],
    "kinds": ["kind_of(box)"],
    "edits": ["with_text(doc, name, text)", "with_tags(doc, name, tags)", "with_kid(doc, name, box, place=None)",
              "without(doc, name)"],
    "boxtexts": ["document_text(doc)", "read_document(text)"],
    "rules": ["need_rules(thing)", "test_of(tests)", "plain_shape()"],
    "shapes": ["shapes_of(doc, rules)", "cause(doc, rules, name, word)"],
    "ruletexts": ["rules_text(rules)", "read_rules(text)"],
    "broken": ["broken(text, wide)", "limited(n, least, most)"],
    "across": ["need_of(box, shapes, needs)", "needs_of(doc, shapes)", "asked_wide(shape, needs, wide)"],
    "lines": ["lines_of(box, shapes, needs, wide)", "cells_of(box, shapes, wide)",
              "widths_of(box, shapes, needs, wide)", "rounds_of(box, shapes, needs, wide)"],
    "down": ["natural_of(box, shapes, naturals, lines, wide)", "heights_of(box, shapes, naturals, lines, high)",
             "column_rounds(box, shapes, naturals, high)"],
    "places": ["spots_of(box, shapes, lines, widths, highs, spot)"],
    "laying": ["layout_of(doc, shapes, wide=80, high=24)"],
    "papers": ["papers_of(doc, shapes, wide=80, high=24)"],
    "checker": ["failing(doc, shapes, wide, high, layout, papers)"],
    "points": ["seen_part(doc, shapes, layout, wide, high, name)", "top_at(doc, shapes, layout, wide, high, x, y)",
               "all_at(doc, shapes, layout, wide, high, x, y)"],
    "keys": ["ring_of(doc, shapes)", "next_key(doc, shapes, name)", "last_key(doc, shapes, name)"],
    "cells": ["draw_page(doc, shapes, layout, wide, high)"],
    "turning": ["cells_between(one, other)", "with_cells(rows, cells)"],
    "telling": ["change_between(one, other)"],
    "doing": ["with_change(doc, change)", "change_back(doc, change)"],
    "sheets": ["parts_of(text)"],
    "desk": ["answers(text)"],
}
CLASSES = {
    "kinds": {"Kind(box)": ["word()", "kids()"]},
    "leaning": {"Page(doc, rules=None, wide=80, high=24)": [
        "become(doc)", "resize(wide, high)", "reset(rules)", "document()", "rules()", "size()", "shapes()", "layout()",
        "papers()", "laid()"]},
    "keys": {"Keys(doc, shapes)": ["at()", "to(name)", "on()", "back()", "changed(doc, shapes)"]},
    "hands": {"Hands(doc)": ["document()", "do(change)", "undo()", "redo()", "many()"]},
}


def name_in(told):
    return told.partition("(")[0]


class Interface(unittest.TestCase):
    def test_functions(self):
        for stem, functions in FUNCTIONS.items():
            module = importlib.import_module("panehouse." + stem)
            for told in functions:
                with self.subTest((stem, told)):
                    function = getattr(module, name_in(told))
                    self.assertEqual(name_in(told) + str(inspect.signature(function)), told)

    def test_classes(self):
        for stem, classes in CLASSES.items():
            module = importlib.import_module("panehouse." + stem)
            for told, methods in classes.items():
                with self.subTest((stem, told)):
                    held = getattr(module, name_in(told))
                    self.assertEqual(name_in(told) + str(inspect.signature(held)), told)
                    for method in methods:
                        # What stands first is the object itself.
                        rest = list(inspect.signature(getattr(held, name_in(method))).parameters.values())[1:]
                        self.assertEqual(f"{name_in(method)}({', '.join(map(str, rest))})", method)
