import copy

from retold import drawn_by_hand
from samples import Refusing, blank, box, drawn_document, drawn_shapes, house, not_numbers, row, shaped, words
from panehouse.cells import draw_page
from panehouse.errors import NoPage
from panehouse.laying import layout_of


class Drawn(Refusing):
    def check(self, doc, expected, layout=None, **others):
        """The drawing on a page of the size of what is expected; without a layout, as laid out on it."""
        shapes = shaped(doc, **others)
        wide, high = len(expected[0]), len(expected)
        self.assertEqual(draw_page(doc, shapes, layout or layout_of(doc, shapes, wide, high), wide, high), expected)


class Pages(Drawn):
    def test_blanks_at_first(self):
        self.check(blank("a"), ["     "] * 3)

    def test_no_width_or_no_height(self):
        doc = words("a", "abc")
        shapes = shaped(doc, a={"fill": "#", "wide": ("share", 1), "high": ("share", 1)})
        for wide, high in [(0, 0), (0, 3), (3, 0)]:
            self.assertEqual(draw_page(doc, shapes, layout_of(doc, shapes, wide, high), wide, high), [""] * high
                             if wide == 0 else [])

    def test_of_400(self):
        doc = blank("a")
        shapes = shaped(doc, a={"fill": "#", "wide": ("share", 1), "high": ("share", 1)})
        self.assertEqual(draw_page(doc, shapes, layout_of(doc, shapes, 400, 400), 400, 400), ["#" * 400] * 400)

    def test_no_page(self):
        shapes = shaped(house())
        layout = layout_of(house(), shapes)
        for size in not_numbers() + [401, 10 ** 30]:
            with self.subTest(repr(size)[:40]):
                self.refused_as(NoPage, draw_page, house(), shapes, layout, size, 24)
                self.refused_as(NoPage, draw_page, house(), shapes, layout, 80, size)


class Fills(Drawn):
    def test_all_cells(self):
        self.check(blank("a"), ["     ", " ..  ", " ..  ", "     "], {"a": (1, 1, 2, 2)}, a={"fill": "."})

    def test_the_last_one_drawn_is_seen(self):
        doc = row("a", blank("b"), blank("c"))
        layout = {"a": (0, 0, 5, 3), "b": (1, 0, 3, 2), "c": (2, 1, 9, 9)}
        self.check(doc, ["abbba", "abccc", "aaccc"], layout, a={"fill": "a"}, b={"fill": "b"}, c={"fill": "c"})
        self.check(doc, ["abbba", "abbba", "aaaaa"], layout, a={"fill": "a"}, b={"fill": "b"})

    def test_cut_at_the_boxes_and_the_pages_end(self):
        doc = row("a", row("b", blank("c")))
        layout = {"a": (0, 0, 4, 3), "b": (1, 1, 9, 1), "c": (0, 0, 9, 9)}
        self.check(doc, ["    ", " ccc", "    "], layout, c={"fill": "c"})
        self.check(doc, ["cccc", "cccc", "cccc"], layout, c={"fill": "c"}, b={"over": True})
        self.check(doc, ["cccccc"] * 4, layout, c={"fill": "c"}, b={"over": True}, a={"over": True})
        self.check(doc, [" ", " "], {"a": (0, 0, 1, 2), "b": (1, 1, 9, 1), "c": (0, 0, 9, 9)}, c={"fill": "c"})


class Texts(Drawn):
    def test_rows(self):
        self.check(words("a", "Good day to all"), ["Good day  ", "to all    ", "          "])
        self.check(words("a", ""), ["   "])

    def test_pads(self):
        self.check(words("a", "Good day"), ["          ", " Good     ", " day      ", "          "],
                   {"a": (0, 0, 6, 4)}, a={"pad": 1})
        self.check(words("a", "Good day"), ["######    ", "#Good#    ", "#day##    ", "######    "],
                   {"a": (0, 0, 6, 4)}, a={"pad": 1, "fill": "#"})

    def test_over_its_pads_too(self):
        self.check(words("a", "abcdef gh"), ["#####  ", "#####  ", "##abc  ", "##gh#  "], {"a": (0, 0, 5, 4)},
                   a={"pad": 2, "fill": "#"})
        self.check(words("a", "a b c d"), ["###", "#a#", "#b#", "#c#", "   "], {"a": (0, 0, 3, 4)},
                   a={"pad": 1, "fill": "#"})
        self.check(words("a", "abc"), ["    "] * 2, {"a": (0, 0, 2, 2)}, a={"pad": 3})

    def test_cut_at_the_boxes_end(self):
        self.check(words("a", "abcdef"), ["abc  "], {"a": (0, 0, 3, 1)})
        self.check(words("a", "abcdef gh"), ["      ", "  abc "], {"a": (2, 1, 3, 1)})

    def test_cut_at_the_pages_end(self):
        self.check(words("a", "abcdef gh"), ["abcd"], {"a": (0, 0, 6, 2)})
        self.check(words("a", "abcdef gh"), ["    ", "  ab"], {"a": (2, 1, 6, 2)})
        self.check(words("a", "abcdef gh"), ["    "], {"a": (4, 0, 6, 2)})

    def test_cut_by_what_is_about_it(self):
        doc = row("a", words("b", "abcdef gh"))
        self.check(doc, ["        ", "  cde   ", "  ###   "], {"a": (2, 1, 3, 2), "b": (0, 1, 6, 1)}, a={"fill": "#"})
        self.check(doc, ["        ", "abcdef  ", "  ###   "], {"a": (2, 1, 3, 2), "b": (0, 1, 6, 1)},
                   a={"fill": "#", "over": True})

    def test_blanks_within_a_row_are_drawn(self):
        self.check(words("a", "ab cd ef"), ["ab cd## ", "ef##### "], {"a": (0, 0, 7, 2)}, a={"fill": "#"})

    def test_ink(self):
        doc = words("a", "Ab cD 3x")
        self.check(doc, ["Ab cD 3x"], a={"ink": "as"})
        self.check(doc, ["AB CD 3X"], a={"ink": "great"})
        self.check(doc, ["ab cd 3x"], a={"ink": "small"})

    def test_the_fill_has_no_ink(self):
        self.check(words("a", "Ab"), ["ABbb"], {"a": (0, 0, 4, 1)}, a={"ink": "great", "fill": "b"})
        self.check(words("a", "Ab"), ["abBB"], {"a": (0, 0, 4, 1)}, a={"ink": "small", "fill": "B"})

    def test_only_words_have_a_text(self):
        self.check(box("grid", "a", more=3), ["##"], {"a": (0, 0, 2, 1)}, a={"fill": "#"})

    def test_a_pile(self):
        doc = box("pile", "a", words("x", "one two"), words("y", "fo"))
        self.check(doc, ["foe two  "])
        self.check(doc, ["fo.....  "], y={"fill": ".", "leastw": 7})


class Whole(Drawn):
    def test_drawn_ones(self):
        for seed in range(150):
            doc = drawn_document(seed)
            shapes = drawn_shapes(doc, seed)
            page = [(20, 12), (9, 30), (0, 5), (33, 3), (60, 20)][seed % 5]
            layout = layout_of(doc, shapes, *page)
            for wide, high in [page, (7, 7)]:
                told = draw_page(doc, shapes, layout, wide, high)
                self.assertEqual(told, drawn_by_hand(doc, shapes, layout, wide, high))
                self.assertEqual([len(told)] + [len(one) for one in told], [high] + [wide] * high)


class AsItWas(Drawn):
    def test_what_is_handed_in_stays(self):
        shapes = shaped(house())
        layout = layout_of(house(), shapes)
        ahead = copy.deepcopy((shapes, layout))
        told = draw_page(house(), shapes, layout, 80, 24)
        self.assertEqual((shapes, layout), ahead)
        self.assertIs(type(told), list)
        told[0] = "q"
        told.append("q")
        self.assertEqual(draw_page(house(), shapes, layout, 80, 24), ["Some words here".ljust(80)] + [" " * 80] * 23)
