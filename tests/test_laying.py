import copy

from retold import lay_by_hand
from samples import (Refusing, blank, box, chain, crowd, drawn_document, drawn_rules, drawn_shapes, house, not_numbers,
                     shaped, words)
from panehouse.boxes import box_of, boxes_of, names_of
from panehouse.errors import NoPage
from panehouse.laying import layout_of
from panehouse.shapes import shapes_of

NO_SIZES = not_numbers() + [401, 10 ** 30]
SHARE = ("share", 1)
PAGES = [(0, 0), (1, 1), (5, 3), (20, 24), (80, 24), (13, 400), (400, 7), (400, 400)]


def meets(one, other):
    return all(one[at] < other[at] + other[at + 2] and other[at] < one[at] + one[at + 2] for at in [0, 1]) \
        and min(one[2], one[3], other[2], other[3]) > 0


class Laid(Refusing):
    def check(self, doc, expected, *page, **others):
        self.assertEqual(layout_of(doc, shaped(doc, **others), *page), expected)


class Root(Laid):
    def test_no_page_told(self):
        self.check(blank("a"), {"a": (0, 0, 80, 24)}, a={"wide": SHARE, "high": SHARE})
        self.check(blank("a"), {"a": (0, 0, 33, 24)}, 33, a={"wide": SHARE, "high": SHARE})

    def test_held(self):
        self.check(words("a", "Some words here"), {"a": (0, 0, 15, 1)})
        self.check(words("a", "Some words here"), {"a": (0, 0, 12, 2)}, 12, 24)
        self.check(words("a", "Some words here"), {"a": (0, 0, 5, 3)}, 3, 2)
        self.check(words("a", "Some words here"), {"a": (0, 0, 5, 3)}, 0, 0)
        self.check(blank("a"), {"a": (0, 0, 0, 0)})
        self.check(blank("a"), {"a": (0, 0, 6, 6)}, 0, 0, a={"pad": 3})

    def test_fixed(self):
        for page in PAGES:
            self.check(blank("a"), {"a": (0, 0, 9, 7)}, *page, a={"wide": ("fixed", 9), "high": ("fixed", 7)})
        self.check(blank("a"), {"a": (0, 0, 10, 4)}, a={"wide": ("fixed", 9), "high": ("fixed", 7), "leastw": 10,
                                                         "mosth": 4})

    def test_a_share(self):
        for wide, high in PAGES:
            self.check(blank("a"), {"a": (0, 0, wide, high)}, wide, high, a={"wide": SHARE, "high": SHARE})
        self.check(blank("a"), {"a": (0, 0, 9, 8)}, 20, 20, a={"wide": SHARE, "high": SHARE, "mostw": 9, "mosth": 8})
        self.check(blank("a"), {"a": (0, 0, 30, 31)}, 20, 20,
                   a={"wide": SHARE, "high": SHARE, "leastw": 30, "leasth": 31, "mosth": 9})
        self.check(words("a", "Some words here"), {"a": (0, 0, 15, 2)}, 80, 2, a={"high": SHARE})


class Within(Laid):
    def test_a_house(self):
        doc = box("column", "a", words("top", "Good day"), box("row", "mid", words("x", "ab cd"), blank("y")),
                  box("pile", "low", words("p", "one"), words("q", "two")))
        self.check(doc, {"a": (0, 0, 20, 10), "top": (1, 1, 8, 1), "mid": (1, 3, 18, 4), "x": (1, 3, 5, 1),
                         "y": (8, 3, 11, 4), "low": (1, 8, 3, 1), "p": (1, 8, 3, 1), "q": (1, 8, 3, 1)}, 20, 10,
                   a={"wide": SHARE, "high": SHARE, "pad": 1, "gap": 1}, mid={"wide": SHARE, "high": SHARE, "gap": 2},
                   y={"wide": SHARE, "high": SHARE})

    def test_kids_that_reach_beyond(self):
        doc = box("row", "a", words("x", "abcdef"), words("y", "ghi"))
        self.check(doc, {"a": (0, 0, 4, 1), "x": (0, 0, 6, 1), "y": (6, 0, 3, 1)}, 80, 24, a={"mostw": 4})
        doc = box("column", "a", words("x", "abc"), words("y", "ghi"))
        self.check(doc, {"a": (0, 0, 3, 1), "x": (0, 0, 3, 1), "y": (0, 1, 3, 1)}, 80, 24, a={"mosth": 1})

    def test_a_grid_and_a_flow(self):
        kids = [words(name, "ab cd") for name in "xyz"]
        self.check(box("grid", "a", *kids, more=2), {"a": (0, 0, 9, 4), "x": (0, 0, 4, 2), "y": (5, 0, 4, 2),
                                                     "z": (0, 3, 4, 2)}, 9, 24, a={"gap": 1, "mosth": 4})
        self.check(box("flow", "a", *kids), {"a": (0, 0, 11, 3), "x": (0, 0, 5, 1), "y": (6, 0, 5, 1),
                                             "z": (0, 2, 5, 1)}, 11, 24, a={"gap": 1})

    def test_names_in_order_and_tuples(self):
        for doc in [house(), chain(8), crowd(40), drawn_document(5)]:
            layout = layout_of(doc, shaped(doc))
            self.assertIs(type(layout), dict)
            self.assertEqual(list(layout), names_of(doc))
            self.assertEqual({type(n) for spot in layout.values() for n in spot}, {int})
            self.assertEqual({type(spot) for spot in layout.values()}, {tuple})

    def test_drawn_ones(self):
        for seed in range(400):
            doc = drawn_document(seed)
            page = PAGES[seed % len(PAGES)]
            for shapes in [drawn_shapes(doc, seed), shapes_of(doc, drawn_rules(seed, seed % 41))]:
                laid = lay_by_hand(doc, shapes, *page).all()
                self.assertEqual(layout_of(doc, shapes, *page),
                                 {one.name: (one.x, one.y, one.wide, one.high) for one in laid})


class Promised(Laid):
    def layouts(self):
        for seed in range(300):
            doc = drawn_document(seed)
            shapes = drawn_shapes(doc, seed)
            yield doc, shapes, layout_of(doc, shapes, *PAGES[seed % len(PAGES)])

    def test_kids_never_meet(self):
        met = 0
        for doc, shapes, layout in self.layouts():
            for inner in boxes_of(doc):
                spots = [layout[kid[1]] for kid in inner[4]]
                pairs = [(one, other) for at, one in enumerate(spots) for other in spots[:at]]
                if inner[0] == "pile":
                    met += any(meets(*pair) for pair in pairs)
                else:
                    self.assertFalse(any(meets(*pair) for pair in pairs))
        self.assertGreater(met, 20)

    def full(self, doc, shapes, layout, kind, at, size, most):
        """Whether those with a share one that isn't at its most reach the end; how many there were."""
        many = 0
        for inner in boxes_of(doc):
            kids = [kid[1] for kid in inner[4]]
            shares = [name for name in kids if shapes[name][size][0] == "share"]
            if inner[0] != kind or not [name for name in shares if layout[name][at + 2] < shapes[name][most]]:
                continue
            pad = shapes[inner[1]]["pad"]
            end = layout[inner[1]][at] + max(layout[inner[1]][at + 2] - pad, pad)
            reached = layout[kids[-1]][at] + layout[kids[-1]][at + 2]
            self.assertGreaterEqual(reached, end)
            many += 1
        return many

    def test_shares_are_full(self):
        rows = columns = 0
        for doc, shapes, layout in self.layouts():
            rows += self.full(doc, shapes, layout, "row", 0, "wide", "mostw")
            columns += self.full(doc, shapes, layout, "column", 1, "high", "mosth")
        self.assertGreater(rows, 50)
        self.assertGreater(columns, 50)

    def test_a_share_at_its_most_and_one_that_isnt(self):
        doc = box("row", "a", blank("x"), blank("y"))
        most = {"wide": SHARE, "mostw": 3}
        self.check(doc, {"a": (0, 0, 20, 0), "x": (0, 0, 3, 0), "y": (3, 0, 17, 0)}, 20, 5, a={"wide": SHARE}, x=most,
                   y={"wide": SHARE})
        self.check(doc, {"a": (0, 0, 20, 0), "x": (0, 0, 3, 0), "y": (3, 0, 3, 0)}, 20, 5, a={"wide": SHARE}, x=most,
                   y=most)
        doc = box("column", "a", blank("x"), blank("y"))
        most = {"high": SHARE, "mosth": 3}
        self.check(doc, {"a": (0, 0, 0, 20), "x": (0, 0, 0, 3), "y": (0, 3, 0, 17)}, 5, 20, a={"high": SHARE}, x=most,
                   y={"high": SHARE})
        self.check(doc, {"a": (0, 0, 0, 20), "x": (0, 0, 0, 3), "y": (0, 3, 0, 3)}, 5, 20, a={"high": SHARE}, x=most,
                   y=most)


class Refused(Laid):
    def test_no_page(self):
        shapes = shaped(house())
        for size in NO_SIZES:
            with self.subTest(repr(size)[:40]):
                self.refused_as(NoPage, layout_of, house(), shapes, size, 24)
                self.refused_as(NoPage, layout_of, house(), shapes, 80, size)
                self.refused_as(NoPage, layout_of, house(), shapes, size)
                self.refused_as(NoPage, layout_of, house(), shapes, size, size)

    def test_pages_of_0_and_400(self):
        for page in [(0, 0), (0, 400), (400, 0), (400, 400)]:
            self.assertEqual(list(layout_of(house(), shaped(house()), *page)), names_of(house()))
        for page in [(401, 0), (0, 401), (-1, 5), (5, -1)]:
            self.refused_as(NoPage, layout_of, house(), shaped(house()), *page)


class AsItWas(Laid):
    def test_what_is_handed_in_stays(self):
        doc = drawn_document(8)
        shapes = drawn_shapes(doc, 8)
        ahead = copy.deepcopy(shapes)
        layout_of(doc, shapes)
        self.refused_as(NoPage, layout_of, doc, shapes, 401, 5)
        self.assertEqual((doc, shapes), (drawn_document(8), ahead))

    def test_what_is_told_is_the_askers_own(self):
        layout = layout_of(house(), shaped(house()))
        ahead = dict(layout)
        layout["a"] = (9, 9, 9, 9)
        layout.pop("d")
        self.assertEqual(layout_of(house(), shaped(house())), ahead)
        self.assertEqual(box_of(house(), "d")[3], "Some words here")
