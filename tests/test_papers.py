import copy

from retold import lay_by_hand
from samples import (Refusing, blank, box, chain, crowd, drawn_document, drawn_shapes, house, not_numbers, shaped,
                     words)
from panehouse.boxes import names_of
from panehouse.errors import NoPage
from panehouse.papers import papers_of

SHARE = ("share", 1)


class Papers(Refusing):
    def test_leaves(self):
        doc = words("a", "Some words here")
        self.assertEqual(papers_of(doc, shaped(doc)), {"a": (5, 15, 1, [], [], [])})
        self.assertEqual(papers_of(doc, shaped(doc), 12), {"a": (5, 15, 2, [], [], [])})
        self.assertEqual(papers_of(blank("a"), shaped(blank("a"), a={"pad": 2}), 0, 0), {"a": (4, 4, 4, [], [], [])})

    def test_a_house(self):
        doc = box("column", "a", box("row", "mid", words("x", "ab cd"), blank("y")), words("z", "one two"))
        shapes = shaped(doc, a={"wide": SHARE, "high": SHARE, "gap": 1}, mid={"wide": SHARE, "high": SHARE, "gap": 2},
                        y={"wide": SHARE, "mostw": 9})
        self.assertEqual(papers_of(doc, shapes, 20, 10), {
            "a": (4, 7, 3, [["mid"], ["z"]], [], [[7, 0]]), "mid": (4, 7, 1, [["x", "y"]], [[[0, 9]]], []),
            "x": (2, 5, 1, [], [], []), "y": (0, 0, 0, [], [], []), "z": (3, 7, 1, [], [], [])})

    def test_rounds_of_each_line(self):
        doc = box("flow", "a", words("x", "abc"), words("y", "def"), words("z", "ghi"))
        shapes = shaped(doc, a={"wide": SHARE}, x={"wide": SHARE}, z={"wide": SHARE})
        self.assertEqual(papers_of(doc, shapes, 8)["a"], (3, 9, 2, [["x", "y"], ["z"]], [[[2, 0]], [[5]]], []))
        self.assertEqual(papers_of(doc, shapes, 6)["a"], (3, 9, 2, [["x", "y"], ["z"]], [[], [[3]]], []))
        grid = box("grid", "a", *doc[4], more=2)
        self.assertEqual(papers_of(grid, shapes, 8)["a"], (6, 6, 2, [["x", "y"], ["z"]], [], []))
        pile = box("pile", "a", *doc[4])
        self.assertEqual(papers_of(pile, shapes, 8)["a"], (3, 3, 1, [["x", "y", "z"]], [], []))

    def test_names_in_order_and_kinds(self):
        for doc in [house(), chain(8), crowd(40)]:
            papers = papers_of(doc, shaped(doc))
            self.assertIs(type(papers), dict)
            self.assertEqual(list(papers), names_of(doc))
            for paper in papers.values():
                self.assertIs(type(paper), tuple)
                self.assertEqual([type(part) for part in paper], [int] * 3 + [list] * 3)

    def test_drawn_ones(self):
        for seed in range(300):
            doc = drawn_document(seed)
            shapes = drawn_shapes(doc, seed)
            page = [(80, 24), (5, 3), (30, 400), (0, 0)][seed % 4]
            laid = lay_by_hand(doc, shapes, *page).all()
            self.assertEqual(repr(papers_of(doc, shapes, *page)), repr({one.name: one.paper() for one in laid}))

    def test_no_page_told(self):
        doc = box("row", "a", blank("x"))
        shapes = shaped(doc, a={"wide": SHARE}, x={"wide": SHARE})
        self.assertEqual(papers_of(doc, shapes)["a"][4], [[[80]]])
        doc = box("column", "a", blank("x"))
        shapes = shaped(doc, a={"high": SHARE}, x={"high": SHARE})
        self.assertEqual(papers_of(doc, shapes)["a"][5], [[24]])

    def test_no_page(self):
        for size in not_numbers() + [401, 10 ** 30]:
            with self.subTest(repr(size)[:40]):
                self.refused_as(NoPage, papers_of, house(), shaped(house()), size, 24)
                self.refused_as(NoPage, papers_of, house(), shaped(house()), 80, size)


class AsItWas(Refusing):
    def test_what_is_handed_in_stays(self):
        doc = drawn_document(8)
        shapes = drawn_shapes(doc, 8)
        ahead = copy.deepcopy(shapes)
        papers_of(doc, shapes)
        self.assertEqual((doc, shapes), (drawn_document(8), ahead))

    def test_what_is_told_is_the_askers_own(self):
        doc = box("row", "a", blank("x"), box("column", "c", blank("y")))
        shapes = shaped(doc, a={"wide": SHARE, "high": SHARE}, c={"wide": SHARE, "high": SHARE},
                        y={"wide": SHARE, "high": SHARE})
        papers = papers_of(doc, shapes)
        ahead = copy.deepcopy(papers)
        papers["a"][3][0].append("q")
        papers["a"][4][0].append([1])
        papers["c"][5][0][0] = 99
        papers.pop("x")
        self.assertEqual(papers_of(doc, shapes), ahead)
