import random

from samples import Refusing, drawn_document, drawn_shapes, not_numbers
from panehouse.cells import draw_page
from panehouse.errors import NoPage
from panehouse.laying import layout_of
from panehouse.turning import cells_between, with_cells

ROWS = ["abc", "def"]


class Between(Refusing):
    def test_the_same(self):
        for rows in [[], [""], ["", ""], ["a"], ROWS]:
            self.assertEqual(cells_between(rows, list(rows)), [])

    def test_unlike_cells(self):
        self.assertEqual(cells_between(ROWS, ["aBc", "deF"]), [(0, 1, "B"), (1, 2, "F")])
        self.assertEqual(cells_between(ROWS, ["   ", "   "]), [(0, 0, " "), (0, 1, " "), (0, 2, " "),
                                                               (1, 0, " "), (1, 1, " "), (1, 2, " ")])
        self.assertEqual(cells_between(["   "], ["  x"]), [(0, 2, "x")])

    def test_by_y_then_x(self):
        one, other = [" " * 12] * 12, ["x" * 12] * 12
        self.assertEqual(cells_between(one, other), [(y, x, "x") for y in range(12) for x in range(12)])

    def test_unlike_sizes(self):
        for other in [[], [""], ["abc"], ["abc", "def", "ghi"], ["ab", "de"], ["abcd", "defg"], ["abc", "de"],
                      ["abc", "defg"], ["abc", "def", ""], ["", "abc", "def"], ["abcdef"]]:
            self.refused_as(NoPage, cells_between, ROWS, other)
            self.refused_as(NoPage, cells_between, other, ROWS)
        self.refused_as(NoPage, cells_between, [], [""])
        self.refused_as(NoPage, cells_between, [""], ["", ""])


class With(Refusing):
    def test_cells(self):
        self.assertEqual(with_cells(ROWS, [(0, 1, "B"), (1, 2, "F")]), ["aBc", "deF"])
        self.assertEqual(with_cells(ROWS, [(1, 0, " ")]), ["abc", " ef"])
        self.assertEqual(with_cells(ROWS, []), ROWS)
        self.assertEqual(with_cells([], []), [])
        self.assertEqual(with_cells(["", ""], []), ["", ""])
        self.assertEqual(with_cells(ROWS, [(0, 0, "a")]), ROWS)

    def test_two_cells_of_one_place(self):
        self.assertEqual(with_cells(ROWS, [(0, 1, "x"), (1, 1, "z"), (0, 1, "y")]), ["ayc", "dzf"])
        self.assertEqual(with_cells(ROWS, [(0, 1, "x"), (0, 1, "b")]), ROWS)

    def test_just_beyond(self):
        for y, x in [(0, 3), (2, 0), (1, 3), (-1, 0), (0, -1), (2, 3), (10 ** 30, 0), (0, 10 ** 30), (-2, -3)]:
            self.refused_as(NoPage, with_cells, ROWS, [(y, x, "q")])
            self.refused_as(NoPage, with_cells, ROWS, [(0, 0, "q"), (y, x, "q")])
            self.refused_as(NoPage, with_cells, ROWS, [(y, x, "q"), (0, 0, "q")])
        for rows in [[], [""], ["", ""]]:
            self.refused_as(NoPage, with_cells, rows, [(0, 0, "q")])

    def test_no_numbers(self):
        for thing in not_numbers():
            with self.subTest(repr(thing)[:40]):
                self.refused_as(NoPage, with_cells, ROWS, [(thing, 0, "q")])
                self.refused_as(NoPage, with_cells, ROWS, [(0, thing, "q")])


class Together(Refusing):
    def test_what_is_turned_leads_to_the_other(self):
        chance = random.Random(1)
        for many in range(100):
            wide, high = chance.randrange(6), chance.randrange(6)
            one, other = [["".join(chance.choice("ab ") for x in range(wide)) for y in range(high)] for two in "12"]
            cells = cells_between(one, other)
            self.assertEqual(with_cells(one, cells), other)
            self.assertEqual(cells, sorted(cells))
            for at in range(len(cells)):
                self.assertNotEqual(with_cells(one, cells[:at] + cells[at + 1:]), other)

    def test_drawn_pages(self):
        for seed in range(20):
            drawn = []
            for shaping in [seed, seed + 1]:
                doc = drawn_document(seed)
                shapes = drawn_shapes(doc, shaping)
                drawn.append(draw_page(doc, shapes, layout_of(doc, shapes, 30, 12), 30, 12))
            self.assertEqual(with_cells(drawn[0], cells_between(*drawn)), drawn[1])


class AsItWas(Refusing):
    def test_what_is_handed_in_stays(self):
        rows, cells = list(ROWS), [(0, 1, "B")]
        told = with_cells(rows, cells)
        told.append("q")
        with_cells(rows, []).append("q")
        self.refused_as(NoPage, with_cells, rows, [(0, 1, "B"), (5, 5, "B")])
        cells_between(rows, ["aBc", "def"]).append("q")
        self.assertEqual((rows, cells), (ROWS, [(0, 1, "B")]))
        self.assertEqual(cells_between(rows, ["aBc", "def"]), [(0, 1, "B")])
        self.assertEqual(with_cells(rows, cells), ["aBc", "def"])
