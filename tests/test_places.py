import copy
import unittest

from retold import lay_by_hand
from samples import blank, box, drawn_document, drawn_shapes, shaped, words
from panehouse.boxes import boxes_of
from panehouse.places import spots_of

XYZ = (blank("x"), blank("y"), blank("z"))
ALL = [[0, 1, 2]]
EACH = [[0], [1], [2]]
TWO = [[0, 1], [2]]


class Places(unittest.TestCase):
    def check(self, doc, lines, widths, highs, spot, expected, **shape):
        told = spots_of(doc, shaped(doc, a=shape), lines, widths, highs, spot)
        self.assertEqual(told, expected)
        self.assertIs(type(told), list)
        self.assertEqual({type(pair) for pair in told} - {tuple}, set())

    def test_no_kids(self):
        for doc in [blank("a"), words("a", "x"), box("row", "a"), box("flow", "a"), box("column", "a"),
                    box("pile", "a"), box("grid", "a", more=3)]:
            self.check(doc, [], [], [], (3, 4, 9, 9), [], pad=2, gap=2)

    def test_row(self):
        doc = box("row", "a", *XYZ)
        self.check(doc, ALL, [4, 0, 2], [5], (0, 0, 9, 5), [(0, 0), (4, 0), (4, 0)])
        self.check(doc, ALL, [4, 0, 2], [5], (10, 20, 9, 5), [(10, 20), (14, 20), (14, 20)])
        self.check(doc, ALL, [4, 0, 2], [5], (10, 20, 9, 5), [(10, 20), (17, 20), (20, 20)], gap=3)
        self.check(doc, ALL, [4, 0, 2], [5], (10, 20, 9, 5), [(12, 22), (19, 22), (22, 22)], gap=3, pad=2)

    def test_column(self):
        doc = box("column", "a", *XYZ)
        self.check(doc, EACH, [4, 0, 2], [5, 0, 1], (0, 0, 9, 5), [(0, 0), (0, 5), (0, 5)])
        self.check(doc, EACH, [4, 0, 2], [5, 0, 1], (10, 20, 9, 5), [(12, 22), (12, 30), (12, 33)], gap=3, pad=2)

    def test_flow(self):
        doc = box("flow", "a", *XYZ)
        self.check(doc, TWO, [4, 1, 2], [5, 7], (0, 0, 9, 5), [(0, 0), (4, 0), (0, 5)])
        self.check(doc, TWO, [4, 1, 2], [5, 7], (10, 20, 9, 5), [(12, 22), (19, 22), (12, 30)], gap=3, pad=2)
        self.check(doc, [[0], [1, 2]], [4, 1, 2], [5, 7], (1, 2, 9, 5), [(1, 2), (1, 8), (3, 8)], gap=1)

    def test_grid(self):
        doc = box("grid", "a", *XYZ, more=2)
        self.check(doc, TWO, [4, 1, 2], [5, 7], (0, 0, 9, 5), [(0, 0), (5, 0), (0, 5)])
        self.check(doc, TWO, [4, 1, 2], [5, 7], (0, 0, 40, 5), [(0, 0), (20, 0), (0, 5)])
        self.check(doc, TWO, [0, 0, 0], [5, 7], (10, 20, 18, 5), [(12, 22), (21, 22), (12, 30)], gap=3, pad=2)
        self.check(doc, TWO, [0, 0, 0], [5, 7], (10, 20, 19, 5), [(12, 22), (21, 22), (12, 30)], gap=3, pad=2)

    def test_grid_cells_are_unlike(self):
        doc = box("grid", "a", *XYZ, more=3)
        self.check(doc, ALL, [1, 1, 1], [5], (0, 0, 11, 5), [(0, 0), (4, 0), (8, 0)])
        self.check(doc, ALL, [1, 1, 1], [5], (0, 0, 10, 5), [(0, 0), (4, 0), (7, 0)])
        self.check(doc, ALL, [1, 1, 1], [5], (0, 0, 0, 5), [(0, 0), (2, 0), (4, 0)], gap=2)

    def test_pile(self):
        doc = box("pile", "a", *XYZ)
        self.check(doc, ALL, [4, 1, 2], [5], (0, 0, 9, 5), [(0, 0)] * 3)
        self.check(doc, ALL, [4, 1, 2], [5], (10, 20, 9, 5), [(12, 22)] * 3, gap=3, pad=2)

    def test_whatever_numbers(self):
        doc = box("row", "a", *XYZ)
        self.check(doc, ALL, [10 ** 30, 5, 1], [0], (10 ** 20, 7, 0, 0),
                   [(10 ** 20, 7), (10 ** 30 + 10 ** 20, 7), (10 ** 30 + 10 ** 20 + 5, 7)])
        self.check(doc, ALL, [1, 5, 1], [0], (-9, -7, 0, 0), [(-9, -7), (-8, -7), (-3, -7)])
        self.check(box("column", "a", *XYZ), EACH, [1, 5, 1], [10 ** 9, 1, 1], (0, 0, 0, 0),
                   [(0, 0), (0, 10 ** 9), (0, 10 ** 9 + 1)])

    def test_drawn_ones(self):
        for seed in range(200):
            doc = drawn_document(seed)
            shapes = drawn_shapes(doc, seed)
            for one, inner in zip(lay_by_hand(doc, shapes).all(), boxes_of(doc)):
                spot = (one.x, one.y, one.wide, one.high)
                self.assertEqual(spots_of(inner, shapes, one.lines, one.widths, one.highs, spot),
                                 [(kid.x, kid.y) for kid in one.kids])


class AsItWas(unittest.TestCase):
    def test_what_is_handed_in_stays(self):
        doc = box("flow", "a", *XYZ)
        handed = (shaped(doc, a={"gap": 2}), copy.deepcopy(TWO), [4, 1, 2], [5, 7], (1, 2, 3, 4))
        ahead = copy.deepcopy(handed)
        told = spots_of(doc, *handed)
        told.append((9, 9))
        self.assertEqual(handed, ahead)
        self.assertEqual(spots_of(doc, *handed), [(1, 2), (7, 2), (1, 9)])
