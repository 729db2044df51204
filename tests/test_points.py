import copy

from retold import seen_by_hand
from samples import STRANGE, Refusing, blank, box, drawn_document, drawn_shapes, house, row, shaped, words
from panehouse.boxes import names_of
from panehouse.errors import NoName
from panehouse.laying import layout_of
from panehouse.points import all_at, seen_part, top_at

OVER = {"over": True}
# A room in a room in a room, each reaching beyond the one about it, and a box beside them.
DOC = row("a", row("b", row("c", blank("d"))), blank("e"))
LAYOUT = {"a": (2, 1, 10, 6), "b": (4, 0, 20, 5), "c": (0, 2, 9, 9), "d": (3, 3, 30, 30), "e": (5, 4, 2, 2)}


class Seen(Refusing):
    def seen(self, name, layout=LAYOUT, page=(40, 40), **others):
        return seen_part(DOC, shaped(DOC, **others), dict(LAYOUT, **layout), *page, name)

    def test_the_root(self):
        self.assertEqual(self.seen("a"), (2, 1, 10, 6))
        self.assertEqual(self.seen("a", page=(8, 40)), (2, 1, 6, 6))
        self.assertEqual(self.seen("a", page=(40, 4)), (2, 1, 10, 3))
        self.assertEqual(self.seen("a", page=(3, 2)), (2, 1, 1, 1))

    def test_empty(self):
        for page in [(2, 40), (40, 1), (0, 0), (0, 40), (40, 0)]:
            self.assertIsNone(self.seen("a", page=page))
        for spot in [(2, 1, 0, 6), (2, 1, 10, 0), (40, 1, 1, 1), (2, 40, 1, 1)]:
            self.assertIsNone(self.seen("a", {"a": spot}))

    def test_cut_by_all_about_it(self):
        self.assertEqual(self.seen("b"), (4, 1, 8, 4))
        self.assertEqual(self.seen("c"), (4, 2, 5, 3))
        self.assertEqual(self.seen("d"), (4, 3, 5, 2))
        self.assertEqual(self.seen("e"), (5, 4, 2, 2))

    def test_not_cut_by_those_told_over(self):
        self.assertEqual(self.seen("b", a=OVER), (4, 0, 20, 5))
        self.assertEqual(self.seen("c", a=OVER), (4, 2, 5, 3))
        self.assertEqual(self.seen("c", a=OVER, b=OVER), (0, 2, 9, 9))
        self.assertEqual(self.seen("c", b=OVER), (2, 2, 7, 5))
        self.assertEqual(self.seen("d", a=OVER, b=OVER, c=OVER), (3, 3, 30, 30))
        self.assertEqual(self.seen("d", page=(20, 10), a=OVER, b=OVER, c=OVER), (3, 3, 17, 7))
        self.assertEqual(self.seen("d", b=OVER, c=OVER), (3, 3, 9, 4))
        self.assertEqual(self.seen("d", c=OVER), (4, 3, 8, 2))

    def test_whether_it_is_over_itself_is_nothing_for_it(self):
        for name in names_of(DOC):
            self.assertEqual(self.seen(name, **{name: OVER}), self.seen(name))
        self.assertEqual(self.seen("b", d=OVER, e=OVER, c=OVER), (4, 1, 8, 4))

    def test_about_it_is_nothing_left(self):
        for spot in [(2, 1, 0, 6), (2, 1, 10, 0), (30, 30, 5, 5)]:
            self.assertIsNone(self.seen("e", {"a": spot}))
            self.assertIsNone(self.seen("d", {"c": spot}))
            self.assertEqual(self.seen("e", {"a": spot}, a=OVER), (5, 4, 2, 2))

    def test_one_cell_within_or_just_beyond(self):
        self.assertEqual(self.seen("e", {"e": (11, 6, 5, 5)}), (11, 6, 1, 1))
        self.assertIsNone(self.seen("e", {"e": (12, 6, 5, 5)}))
        self.assertIsNone(self.seen("e", {"e": (11, 7, 5, 5)}))
        self.assertEqual(self.seen("e", {"e": (0, 0, 3, 2)}), (2, 1, 1, 1))
        self.assertIsNone(self.seen("e", {"e": (0, 0, 2, 2)}))

    def test_no_name(self):
        for name in STRANGE + ["f", "A", "", 0, ["a"], ("a",)]:
            with self.subTest(repr(name)):
                self.refused_as(NoName, seen_part, DOC, shaped(DOC), LAYOUT, 40, 40, name)


class Under(Refusing):
    def test_the_last_one_drawn(self):
        shapes = shaped(DOC)
        for point, names in [((2, 1), "a"), ((4, 1), "ab"), ((4, 2), "abc"), ((4, 3), "abcd"), ((5, 4), "abcde"),
                             ((6, 5), "ae"), ((11, 6), "a"), ((12, 6), ""), ((11, 7), ""), ((1, 1), ""), ((2, 0), "")]:
            self.assertEqual(all_at(DOC, shapes, LAYOUT, 40, 40, *point), list(names))
            self.assertEqual(top_at(DOC, shapes, LAYOUT, 40, 40, *point), names[-1:] or None)

    def test_below_nought_and_beyond_the_page(self):
        shapes = shaped(DOC, a=OVER, b=OVER, c=OVER)
        layout = {name: (0, 0, 400, 400) for name in names_of(DOC)}
        for point in [(-1, 0), (0, -1), (-5, -5), (7, 0), (0, 9), (10 ** 30, 0), (0, 10 ** 30), (-10 ** 30, 0)]:
            self.assertIsNone(top_at(DOC, shapes, layout, 7, 9, *point))
            self.assertEqual(all_at(DOC, shapes, layout, 7, 9, *point), [])
        for point in [(0, 0), (6, 8), (0, 8), (6, 0)]:
            self.assertEqual(top_at(DOC, shapes, layout, 7, 9, *point), "e")

    def test_a_pile(self):
        doc = box("pile", "a", words("x", "one"), words("y", "two more"), blank("z"))
        shapes = shaped(doc)
        layout = layout_of(doc, shapes)
        self.assertEqual([top_at(doc, shapes, layout, 80, 24, x, 0) for x in [0, 2, 3, 7, 8]],
                         ["y", "y", "y", "y", None])
        self.assertEqual(all_at(doc, shapes, layout, 80, 24, 2, 0), ["a", "x", "y"])

    def test_drawn_ones(self):
        for seed in range(60):
            doc = drawn_document(seed)
            shapes = drawn_shapes(doc, seed)
            page = [(20, 12), (9, 30), (0, 5), (33, 3)][seed % 4]
            layout = layout_of(doc, shapes, *page)
            # Another page than the one that it was laid for shows other parts of it.
            for wide, high in [page, (7, 7)]:
                seen = seen_by_hand(doc, shapes, layout, wide, high)
                for name, cells in seen.items():
                    part = None
                    if cells:
                        left, top = min(cells)
                        right, bottom = max(cells)
                        part = (left, top, right - left + 1, bottom - top + 1)
                    self.assertEqual(seen_part(doc, shapes, layout, wide, high, name), part)
                for x in range(-1, wide + 2, 3):
                    for y in range(-1, high + 2, 2):
                        names = [name for name in seen if (x, y) in seen[name]]
                        self.assertEqual(all_at(doc, shapes, layout, wide, high, x, y), names)
                        self.assertEqual(top_at(doc, shapes, layout, wide, high, x, y), names[-1] if names else None)


class AsItWas(Refusing):
    def test_what_is_handed_in_stays(self):
        shapes = shaped(house())
        layout = layout_of(house(), shapes)
        ahead = copy.deepcopy((shapes, layout))
        seen_part(house(), shapes, layout, 80, 24, "d")
        told = all_at(house(), shapes, layout, 80, 24, 0, 0)
        top_at(house(), shapes, layout, 80, 24, 0, 0)
        self.assertEqual((shapes, layout), ahead)
        self.assertIs(type(told), list)
        told.append("q")
        self.assertEqual(all_at(house(), shapes, layout, 80, 24, 0, 0), ["a", "b", "c", "d"])
