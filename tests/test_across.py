import copy
import unittest

from retold import Laid
from samples import blank, box, chain, drawn_document, drawn_shapes, house, shaped, text_of_80, words
from panehouse.across import asked_wide, need_of, needs_of
from panehouse.boxes import box_of, names_of
from panehouse.rules import plain_shape

THREE = (words("x", "Some words"), words("y", "a"), words("z", "of us all"))


def needs_told(doc, **others):
    return needs_of(doc, shaped(doc, **others))[doc[1]]


class Needs(unittest.TestCase):
    def test_blank(self):
        self.assertEqual(needs_told(blank("a")), (0, 0))

    def test_words(self):
        self.assertEqual(needs_told(words("a", "")), (0, 0))
        self.assertEqual(needs_told(words("a", "x")), (1, 1))
        self.assertEqual(needs_told(words("a", "Some words here")), (5, 15))
        self.assertEqual(needs_told(words("a", "one twelve two")), (6, 14))
        self.assertEqual(needs_told(words("a", text_of_80())), (20, 80))

    def test_row(self):
        self.assertEqual(needs_told(box("row", "a", *THREE)), (9, 20))
        self.assertEqual(needs_told(box("row", "a", *THREE), a={"gap": 3}), (15, 26))
        self.assertEqual(needs_told(box("row", "a", THREE[0]), a={"gap": 3}), (5, 10))

    def test_flow(self):
        self.assertEqual(needs_told(box("flow", "a", *THREE)), (5, 20))
        self.assertEqual(needs_told(box("flow", "a", *THREE), a={"gap": 3}), (5, 26))
        self.assertEqual(needs_told(box("flow", "a", THREE[0]), a={"gap": 3}), (5, 10))

    def test_column_and_pile(self):
        for kind in ["column", "pile"]:
            self.assertEqual(needs_told(box(kind, "a", *THREE)), (5, 10))
            self.assertEqual(needs_told(box(kind, "a", *THREE), a={"gap": 3}), (5, 10))

    def test_the_greatest_ones_may_be_of_two_kids(self):
        kids = (words("x", "aaaaaaaa"), words("y", "b b b b b b b"))
        for kind in ["column", "pile"]:
            self.assertEqual(needs_told(box(kind, "a", *kids)), (8, 13))
        self.assertEqual(needs_told(box("flow", "a", *kids)), (8, 21))
        self.assertEqual(needs_told(box("grid", "a", *kids, more=2)), (16, 26))

    def test_grid(self):
        self.assertEqual(needs_told(box("grid", "a", *THREE, more=1), a={"gap": 3}), (5, 10))
        self.assertEqual(needs_told(box("grid", "a", *THREE, more=2), a={"gap": 3}), (13, 23))
        self.assertEqual(needs_told(box("grid", "a", *THREE, more=3)), (15, 30))

    def test_a_grid_of_more_columns_than_kids(self):
        self.assertEqual(needs_told(box("grid", "a", THREE[0], more=4), a={"gap": 2}), (26, 46))

    def test_no_kids(self):
        for kind in ["row", "flow", "column", "pile"]:
            self.assertEqual(needs_told(box(kind, "a"), a={"gap": 9}), (0, 0))
            self.assertEqual(needs_told(box(kind, "a"), a={"gap": 9, "pad": 2}), (4, 4))
        for columns in range(1, 10):
            self.assertEqual(needs_told(box("grid", "a", more=columns), a={"gap": 9}), (9 * (columns - 1),) * 2)
        self.assertEqual(needs_told(box("grid", "a", more=3), a={"gap": 1, "pad": 4}), (10, 10))

    def test_the_gap_is_the_boxes_own(self):
        doc = box("row", "a", *THREE)
        self.assertEqual(needs_told(doc, a={"gap": 1}, x={"gap": 9}, y={"gap": 9}), (11, 22))

    def test_pad(self):
        for doc in [blank("a"), words("a", "Some words here"), box("row", "a", *THREE), box("pile", "a", *THREE)]:
            plain = needs_told(doc)
            for pad in range(10):
                self.assertEqual(needs_told(doc, a={"pad": pad}), (plain[0] + 2 * pad, plain[1] + 2 * pad))

    def test_pads_of_kids(self):
        self.assertEqual(needs_told(box("row", "a", *THREE), a={"pad": 1}, x={"pad": 2}, z={"pad": 3}), (21, 32))

    def test_fixed(self):
        doc = words("a", "Some words here")
        for n in [0, 1, 7, 400]:
            self.assertEqual(needs_told(doc, a={"wide": ("fixed", n), "pad": 3}), (n, n))
        self.assertEqual(needs_told(doc, a={"wide": ("fixed", 9), "leastw": 12}), (12, 12))
        self.assertEqual(needs_told(doc, a={"wide": ("fixed", 9), "mostw": 4}), (4, 4))
        self.assertEqual(needs_told(doc, a={"high": ("fixed", 9)}), (5, 15))

    def test_a_share_is_as_if_held(self):
        self.assertEqual(needs_told(words("a", "Some words here"), a={"wide": ("share", 9), "pad": 1}), (7, 17))

    def test_limited(self):
        doc = words("a", "Some words here")
        self.assertEqual(needs_told(doc, a={"leastw": 8}), (8, 15))
        self.assertEqual(needs_told(doc, a={"leastw": 20}), (20, 20))
        self.assertEqual(needs_told(doc, a={"mostw": 8}), (5, 8))
        self.assertEqual(needs_told(doc, a={"mostw": 3}), (3, 3))
        self.assertEqual(needs_told(doc, a={"mostw": 0}), (0, 0))
        self.assertEqual(needs_told(doc, a={"mostw": 8, "pad": 2}), (8, 8))
        self.assertEqual(needs_told(doc, a={"leastw": 9, "mostw": 7}), (9, 9))
        self.assertEqual(needs_told(doc, a={"leasth": 99, "mosth": 0}), (5, 15))

    def test_at_most_400(self):
        doc = box("row", "a", *[words(f"w{at}", text_of_80()) for at in range(12)])
        self.assertEqual(needs_told(doc), (240, 400))

    def test_what_kids_need_goes_up(self):
        doc = box("column", "a", box("row", "b", words("c", "abc"), words("d", "de")), words("e", "a b"))
        needs = needs_of(doc, shaped(doc, b={"pad": 1, "gap": 2}, c={"leastw": 4}))
        self.assertEqual(needs, {"a": (10, 10), "b": (10, 10), "c": (4, 4), "d": (2, 2), "e": (1, 3)})

    def test_names_in_order_and_pairs(self):
        for doc in [house(), chain(8), drawn_document(3)]:
            needs = needs_of(doc, shaped(doc))
            self.assertIs(type(needs), dict)
            self.assertEqual(list(needs), names_of(doc))
            self.assertEqual({type(pair) for pair in needs.values()}, {tuple})

    def test_drawn_ones(self):
        for seed in range(300):
            doc = drawn_document(seed)
            shapes = drawn_shapes(doc, seed)
            expected = {one.name: (one.least, one.hold) for one in Laid(doc, shapes).all()}
            self.assertEqual(needs_of(doc, shapes), expected)

    def test_one_box_by_those_of_its_kids(self):
        doc = box("row", "a", *THREE)
        shapes = shaped(doc, a={"gap": 1, "pad": 1})
        self.assertEqual(need_of(doc, shapes, {"x": (1, 2), "y": (10, 20), "z": (100, 200)}), (115, 226))
        self.assertEqual(need_of(THREE[0], shapes, {}), (5, 10))
        self.assertIs(type(need_of(doc, shapes, needs_of(doc, shapes))), tuple)
        for name in names_of(house()):
            one = box_of(house(), name)
            needs = needs_of(house(), shaped(house()))
            self.assertEqual(need_of(one, shaped(house()), needs), needs[name])


class Asked(unittest.TestCase):
    def asked(self, needs, by, **others):
        return asked_wide(dict(plain_shape(), **others), needs, by)

    def test_fixed(self):
        for wide in [0, 4, 5, 6, 400]:
            self.assertEqual(self.asked((5, 5), wide, wide=("fixed", 5)), 5)
            self.assertEqual(self.asked((9, 9), wide, wide=("fixed", 5), leastw=9), 9)
            self.assertEqual(self.asked((2, 2), wide, wide=("fixed", 5), mostw=2), 2)
            self.assertEqual(self.asked((9, 9), wide, wide=("fixed", 5), leastw=9, mostw=2), 9)

    def test_share(self):
        for wide in [0, 4, 5, 6, 400]:
            self.assertEqual(self.asked((5, 50), wide, wide=("share", 1)), wide)
            self.assertEqual(self.asked((5, 50), wide, wide=("share", 99)), wide)
            self.assertEqual(self.asked((5, 50), wide, wide=("share", 1), leastw=5), max(5, wide))
            self.assertEqual(self.asked((5, 50), wide, wide=("share", 1), mostw=5), min(5, wide))
        self.assertEqual(self.asked((5, 50), 401, wide=("share", 1)), 400)

    def test_hold(self):
        expected = {0: 5, 4: 5, 5: 5, 6: 6, 14: 14, 15: 15, 16: 15, 400: 15, 10 ** 30: 15}
        for wide, asked in expected.items():
            self.assertEqual(self.asked((5, 15), wide), asked)
        self.assertEqual(self.asked((5, 15), 3, leastw=8), 8)
        self.assertEqual(self.asked((5, 15), 30, mostw=8), 8)
        self.assertEqual(self.asked((5, 15), 30, leastw=9, mostw=8), 9)
        self.assertEqual(self.asked((0, 0), 30), 0)

    def test_what_is_down_is_not_asked(self):
        self.assertEqual(self.asked((5, 15), 9, high=("fixed", 1), leasth=99, mosth=0, pad=3, gap=3), 9)

    def test_drawn_ones(self):
        for seed in range(60):
            doc = drawn_document(seed)
            shapes = drawn_shapes(doc, seed)
            for one in Laid(doc, shapes).all():
                for wide in [0, 1, one.least, one.hold, one.hold + 1, max(0, one.least - 1), 400]:
                    self.assertEqual(asked_wide(shapes[one.name], (one.least, one.hold), wide), one.asked(wide))


class AsItWas(unittest.TestCase):
    def test_what_is_handed_in_stays(self):
        doc = drawn_document(7)
        shapes = drawn_shapes(doc, 7)
        needs = needs_of(doc, shapes)
        ahead = copy.deepcopy((shapes, needs))
        need_of(doc, shapes, needs)
        asked_wide(shapes[doc[1]], needs[doc[1]], 9)
        self.assertEqual((shapes, needs), ahead)
        self.assertEqual(doc, drawn_document(7))

    def test_what_is_told_is_the_askers_own(self):
        shapes = shaped(house())
        needs = needs_of(house(), shapes)
        ahead = dict(needs)
        needs["a"] = (9, 9)
        needs.pop("d")
        self.assertEqual(needs_of(house(), shapes), ahead)
