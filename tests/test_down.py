import copy
import unittest

from retold import lay_by_hand
from samples import blank, box, drawn_document, drawn_shapes, house, shaped, text_of_80, words
from panehouse.boxes import boxes_of
from panehouse.down import column_rounds, heights_of, natural_of

XYZ = (blank("x"), blank("y"), blank("z"))
NATURALS = {"x": 2, "y": 5, "z": 3}
ALL = [[0, 1, 2]]
EACH = [[0], [1], [2]]
TWO = [[0, 1], [2]]


def grid(columns):
    return box("grid", "a", *XYZ, more=columns)


class Natural(unittest.TestCase):
    def check(self, doc, lines, expected, wide=80, naturals=NATURALS, **shape):
        self.assertEqual(natural_of(doc, shaped(doc, a=shape), naturals, lines, wide), expected)

    def test_blank(self):
        self.check(blank("a"), [], 0)
        self.check(blank("a"), [], 6, pad=3)

    def test_words(self):
        self.check(words("a", ""), [], 0)
        self.check(words("a", ""), [], 4, pad=2)
        for wide, high in [(0, 3), (1, 3), (5, 3), (9, 3), (10, 2), (14, 2), (15, 1), (400, 1)]:
            self.check(words("a", "Some words here"), [], high, wide)
        self.check(words("a", text_of_80()), [], 4, 20)

    def test_words_are_broken_by_the_inside(self):
        self.check(words("a", "Some words here"), [], 3, 17, pad=1)
        self.check(words("a", "Some words here"), [], 4, 16, pad=1)
        self.check(words("a", "Some words here"), [], 9, 5, pad=3)

    def test_a_row_is_as_high_as_its_line(self):
        self.check(box("row", "a", *XYZ), ALL, 5)
        self.check(box("row", "a", *XYZ), ALL, 5, gap=3)
        self.check(box("row", "a", *XYZ), ALL, 9, gap=3, pad=2)

    def test_a_column_has_gaps_between(self):
        self.check(box("column", "a", *XYZ), EACH, 10)
        self.check(box("column", "a", *XYZ), EACH, 16, gap=3)
        self.check(box("column", "a", *XYZ), EACH, 20, gap=3, pad=2)
        self.check(box("column", "a", XYZ[0]), [[0]], 2, gap=3)

    def test_flow_and_grid_by_their_lines(self):
        for doc in [box("flow", "a", *XYZ), grid(2)]:
            self.check(doc, TWO, 8)
            self.check(doc, TWO, 9, gap=1)
            self.check(doc, TWO, 11, gap=1, pad=1)
            self.check(doc, EACH, 12, gap=1)
            self.check(doc, ALL, 5, gap=1)
            self.check(doc, [[0], [1, 2]], 7)

    def test_a_pile_is_as_high_as_its_greatest(self):
        self.check(box("pile", "a", *XYZ), ALL, 5)
        self.check(box("pile", "a", *XYZ), ALL, 7, gap=9, pad=1)

    def test_no_kids(self):
        for kind in ["row", "flow", "column", "pile"]:
            self.check(box(kind, "a"), [], 0, gap=9)
            self.check(box(kind, "a"), [], 2, gap=9, pad=1)
        self.check(box("grid", "a", more=9), [], 0, gap=9)

    def test_fixed(self):
        for high in [0, 1, 400]:
            self.check(box("column", "a", *XYZ), EACH, high, high=("fixed", high), pad=5)
        self.check(words("a", "Some words"), [], 3, 1, high=("fixed", 3))
        self.check(words("a", "Some words"), [], 7, 1, high=("fixed", 3), leasth=7)
        self.check(words("a", "Some words"), [], 2, 1, high=("fixed", 3), mosth=2)

    def test_a_share_is_as_if_held(self):
        self.check(box("row", "a", *XYZ), ALL, 7, high=("share", 5), pad=1)

    def test_limited(self):
        doc = box("row", "a", *XYZ)
        self.check(doc, ALL, 9, leasth=9)
        self.check(doc, ALL, 3, mosth=3)
        self.check(doc, ALL, 0, mosth=0, pad=3)
        self.check(doc, ALL, 9, leasth=9, mosth=3)
        self.check(doc, ALL, 5, leastw=9, mostw=0)

    def test_whatever_numbers(self):
        naturals = {"x": 10 ** 20, "y": 0, "z": 10 ** 30}
        self.check(box("row", "a", *XYZ), ALL, 400, naturals=naturals)
        self.check(box("column", "a", *XYZ), EACH, 400, naturals=naturals)
        self.check(words("a", "Some words"), [], 1, 10 ** 30)


class Heights(unittest.TestCase):
    def told(self, doc, lines, high, naturals=NATURALS, **others):
        told = heights_of(doc, shaped(doc, **others), naturals, lines, high)
        self.assertIs(type(told), tuple)
        self.assertEqual([type(part) for part in told], [list, list])
        return told

    def check(self, doc, lines, high, highs, heights, **others):
        self.assertEqual(self.told(doc, lines, high, **others), (highs, heights))


class InLines(Heights):
    def test_no_kids(self):
        for doc in [blank("a"), words("a", "x")] + [box(kind, "a") for kind in ["row", "flow", "column", "pile"]]:
            self.check(doc, [], 9, [], [])
            self.check(doc, [], 0, [], [], a={"gap": 9, "pad": 9})
        self.check(box("grid", "a", more=3), [], 9, [], [])

    def test_the_line_of_a_row_or_pile_is_the_inside(self):
        for kind in ["row", "pile"]:
            doc = box(kind, "a", *XYZ)
            self.check(doc, ALL, 9, [9], [2, 5, 3])
            self.check(doc, ALL, 9, [5], [2, 5, 3], a={"pad": 2, "gap": 3})
            self.check(doc, ALL, 3, [0], [2, 5, 3], a={"pad": 2})
            self.check(doc, ALL, 0, [0], [2, 5, 3])

    def test_a_share_is_as_high_as_the_line(self):
        for kind in ["row", "pile"]:
            doc = box(kind, "a", *XYZ)
            self.check(doc, ALL, 9, [9], [9, 5, 3], x={"high": ("share", 4)})
            self.check(doc, ALL, 1, [1], [1, 5, 3], x={"high": ("share", 4)})
            self.check(doc, ALL, 9, [7], [4, 7, 8], a={"pad": 1}, x={"high": ("share", 1), "mosth": 4},
                       y={"high": ("share", 1)}, z={"high": ("share", 1), "leasth": 8})
            self.check(doc, ALL, 9, [9], [6, 5, 3], x={"high": ("share", 1), "leasth": 6, "mosth": 4})

    def test_fixed_and_held_ones_have_their_natural_height(self):
        doc = box("row", "a", *XYZ)
        self.check(doc, ALL, 9, [9], [2, 5, 3], x={"high": ("fixed", 2)}, y={"leasth": 5}, z={"mosth": 3})

    def test_lines_of_flow_and_grid_are_natural(self):
        for doc in [box("flow", "a", *XYZ), grid(2)]:
            for high in [0, 8, 400]:
                self.check(doc, TWO, high, [5, 3], [2, 5, 3])
                self.check(doc, TWO, high, [5, 3], [2, 5, 3], a={"pad": 3, "gap": 2})
                self.check(doc, TWO, high, [5, 3], [5, 5, 3], x={"high": ("share", 9)})
                self.check(doc, [[0], [1, 2]], high, [2, 5], [2, 5, 5], x={"high": ("share", 9)},
                           z={"high": ("share", 1)})
                self.check(doc, TWO, high, [5, 3], [4, 5, 6], x={"high": ("share", 9), "mosth": 4},
                           z={"high": ("share", 1), "leasth": 6})

    def test_whatever_numbers(self):
        doc = box("row", "a", *XYZ)
        self.check(doc, ALL, 10 ** 30, [10 ** 30], [400, 5, 3], x={"high": ("share", 1)})
        doc = grid(3)
        self.assertEqual(self.told(doc, ALL, 5, {"x": 10 ** 20, "y": 1, "z": 0}), ([10 ** 20], [10 ** 20, 1, 0]))


class Columns(Heights):
    def rounds(self, high, naturals=NATURALS, **others):
        doc = box("column", "a", *XYZ)
        told = column_rounds(doc, shaped(doc, **others), naturals, high)
        self.assertIs(type(told), list)
        return told

    def column(self, high, sizes, rounds, **others):
        """In a column a kid is as high as its line."""
        self.check(box("column", "a", *XYZ), EACH, high, sizes, sizes, **others)
        self.assertEqual(self.rounds(high, **others), rounds)

    def test_without_shares(self):
        for high in [0, 9, 10, 11, 400]:
            self.column(high, [2, 5, 3], [])
            self.column(high, [2, 5, 3], [], a={"pad": 4, "gap": 4})

    def test_shares(self):
        shares = {"x": {"high": ("share", 1)}, "z": {"high": ("share", 3)}}
        self.column(10, [2, 5, 3], [], **shares)
        self.column(9, [2, 5, 3], [], **shares)
        self.column(11, [2, 5, 4], [[0, 0, 1]], **shares)
        self.column(18, [4, 5, 9], [[2, 0, 6]], **shares)

    def test_gaps_and_pads(self):
        share = {"x": {"high": ("share", 1)}}
        self.column(18, [2, 5, 3], [], a={"gap": 3, "pad": 1}, **share)
        self.column(19, [3, 5, 3], [[1, 0, 0]], a={"gap": 3, "pad": 1}, **share)
        self.column(3, [2, 5, 3], [], a={"gap": 3, "pad": 9}, **share)

    def test_a_share_at_its_most(self):
        self.column(20, [3, 5, 12], [[1, 0, 5], [0, 0, 4]], x={"high": ("share", 1), "mosth": 3},
                    z={"high": ("share", 1)})
        self.column(20, [3, 5, 3], [[1, 0, 0]], x={"high": ("share", 1), "mosth": 3})

    def test_a_most_below_the_natural_height(self):
        self.column(20, [2, 5, 3], [], y={"high": ("share", 1), "mosth": 1})
        self.column(20, [2, 5, 3], [], y={"high": ("share", 1), "leasth": 9, "mosth": 1})

    def test_rounds_of_other_kinds(self):
        shares = {name: {"high": ("share", 1)} for name in "xyz"}
        for doc in [box("row", "a", *XYZ), box("flow", "a", *XYZ), box("pile", "a", *XYZ), grid(1)]:
            self.assertEqual(column_rounds(doc, shaped(doc, **shares), NATURALS, 99), [])
        for doc in [blank("a"), words("a", "x"), box("column", "a"), box("row", "a")]:
            self.assertEqual(column_rounds(doc, shaped(doc), {}, 99), [])

    def test_whatever_numbers(self):
        naturals = {"x": 10 ** 20, "y": 10 ** 5, "z": 0}
        doc = box("column", "a", *XYZ)
        self.assertEqual(self.told(doc, EACH, 10 ** 30, naturals)[1], [10 ** 20, 10 ** 5, 0])
        self.assertEqual(self.rounds(10 ** 30, naturals), [])
        share = {"z": {"high": ("share", 1)}}
        self.assertEqual(self.told(doc, EACH, 10 ** 30, naturals, **share)[0], [10 ** 20, 10 ** 5, 400])
        self.assertEqual(self.rounds(10 ** 30, naturals, **share), [[0, 0, 400]])


class Drawn(unittest.TestCase):
    def test_as_told_another_way(self):
        for seed in range(400):
            doc = drawn_document(seed)
            shapes = drawn_shapes(doc, seed)
            laid = lay_by_hand(doc, shapes, [0, 1, 5, 20, 80, 400][seed % 6], [0, 3, 24, 400][seed % 4]).all()
            naturals = {one.name: one.natural for one in laid}
            for one, inner in zip(laid, boxes_of(doc)):
                self.assertEqual(natural_of(inner, shapes, naturals, one.lines, one.wide), one.natural)
                self.assertEqual(heights_of(inner, shapes, naturals, one.lines, one.high),
                                 (one.highs, [kid.high for kid in one.kids]))
                self.assertEqual(column_rounds(inner, shapes, naturals, one.high), one.down)


class AsItWas(unittest.TestCase):
    def test_what_is_handed_in_stays(self):
        doc = box("column", "a", *XYZ)
        shapes = drawn_shapes(doc, 4)
        naturals = dict(NATURALS)
        lines = copy.deepcopy(EACH)
        natural_of(doc, shapes, naturals, lines, 9)
        heights_of(doc, shapes, naturals, lines, 99)
        column_rounds(doc, shapes, naturals, 99)
        self.assertEqual((shapes, naturals, lines), (drawn_shapes(doc, 4), NATURALS, EACH))
        self.assertEqual(doc, box("column", "a", *XYZ))

    def test_what_is_told_is_the_askers_own(self):
        doc = box("column", "a", *XYZ)
        shapes = shaped(doc, x={"high": ("share", 1)})
        for high in [5, 99]:
            for ask in [lambda: heights_of(doc, shapes, NATURALS, EACH, high),
                        lambda: column_rounds(doc, shapes, NATURALS, high)]:
                told = ask()
                ahead = copy.deepcopy(told)
                for part in told:
                    part.append(99)
                self.assertEqual(ask(), ahead)
        highs, heights = heights_of(doc, shapes, NATURALS, EACH, 99)
        highs[0] = 7
        self.assertEqual(heights, [91, 5, 3])

    def test_a_house_told_twice(self):
        root = lay_by_hand(house(), shaped(house()))
        naturals = {one.name: one.natural for one in root.all()}
        for one, inner in zip(root.all(), boxes_of(house())):
            first = heights_of(inner, shaped(house()), naturals, one.lines, one.high)
            self.assertEqual(heights_of(inner, shaped(house()), naturals, one.lines, one.high), first)
