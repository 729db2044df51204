import copy
import unittest

from retold import lay_by_hand
from samples import blank, box, drawn_document, drawn_shapes, house, shaped, wide_row, words
from panehouse.across import needs_of
from panehouse.boxes import box_of, boxes_of
from panehouse.lines import cells_of, lines_of, rounds_of, widths_of

ABC = (words("x", "aa bb"), words("y", "ccc"), words("z", "d e f"))


class Lines(unittest.TestCase):
    def told(self, doc, wide, **others):
        """Lines, widths, rounds of the root at a width; a list told is a list of the asker's own."""
        shapes = shaped(doc, **others)
        needs = needs_of(doc, shapes)
        told = tuple(ask(doc, shapes, needs, wide) for ask in [lines_of, widths_of, rounds_of])
        self.assertEqual([type(part) for part in told], [list] * 3)
        return told

    def check(self, doc, wide, lines, widths, rounds, **others):
        self.assertEqual(self.told(doc, wide, **others), (lines, widths, rounds))


class NoKids(Lines):
    def test_none(self):
        for doc in [blank("a"), words("a", ""), words("a", "Some words"), box("row", "a"), box("flow", "a"),
                    box("column", "a"), box("pile", "a"), box("grid", "a", more=3)]:
            for wide in [0, 1, 80]:
                self.check(doc, wide, [], [], [])
                self.check(doc, wide, [], [], [], a={"gap": 9, "pad": 9})


class Stacked(Lines):
    def test_lines(self):
        self.check(box("column", "a", *ABC), 9, [[0], [1], [2]], [5, 3, 5], [])
        self.check(box("pile", "a", *ABC), 9, [[0, 1, 2]], [5, 3, 5], [])

    def test_as_asked_by_the_inside(self):
        for kind, lines in [("column", [[0], [1], [2]]), ("pile", [[0, 1, 2]])]:
            doc = box(kind, "a", *ABC)
            self.check(doc, 4, lines, [4, 3, 4], [])
            self.check(doc, 1, lines, [2, 3, 1], [])
            self.check(doc, 0, lines, [2, 3, 1], [])
            self.check(doc, 8, lines, [4, 3, 4], [], a={"pad": 2})
            self.check(doc, 3, lines, [2, 3, 1], [], a={"pad": 2})
            self.check(doc, 9, lines, [7, 9, 6], [], x={"wide": ("fixed", 7)}, y={"wide": ("share", 5)},
                       z={"leastw": 6}, a={"gap": 3})
            self.check(doc, 9, lines, [0, 4, 2], [], x={"wide": ("fixed", 0)}, y={"wide": ("share", 5), "mostw": 4},
                       z={"mostw": 2})
            self.check(doc, 9, lines, [30, 3, 12], [], x={"wide": ("fixed", 30)}, z={"leastw": 12, "mostw": 3})

    def test_wider_than_all(self):
        self.check(box("column", "a", *ABC), 10 ** 30, [[0], [1], [2]], [5, 400, 5], [], y={"wide": ("share", 1)})


class Cells(Lines):
    def cells(self, columns, wide, **shape):
        doc = box("grid", "a", more=columns)
        return cells_of(doc, shaped(doc, a=shape), wide)

    def test_shared_out(self):
        self.assertEqual(self.cells(1, 10), [10])
        self.assertEqual(self.cells(2, 10), [5, 5])
        self.assertEqual(self.cells(3, 10), [4, 3, 3])
        self.assertEqual(self.cells(4, 10), [3, 3, 2, 2])
        self.assertEqual(self.cells(9, 0), [0] * 9)
        self.assertEqual(self.cells(9, 4), [1] * 4 + [0] * 5)

    def test_without_pads_and_gaps(self):
        self.assertEqual(self.cells(3, 10, pad=1), [3, 3, 2])
        self.assertEqual(self.cells(3, 10, gap=2), [2, 2, 2])
        self.assertEqual(self.cells(3, 10, pad=1, gap=2), [2, 1, 1])
        self.assertEqual(self.cells(3, 8, pad=2, gap=2), [0, 0, 0])
        self.assertEqual(self.cells(3, 9, pad=2, gap=2), [1, 0, 0])
        self.assertEqual(self.cells(3, 2, pad=9, gap=9), [0, 0, 0])

    def test_of_any_width(self):
        self.assertEqual(self.cells(3, 10 ** 30), [10 ** 30 // 3 + 1] + [10 ** 30 // 3] * 2)

    def test_other_kinds(self):
        for name in "abcdefhij":
            self.assertEqual(cells_of(box_of(house(), name), shaped(house()), 80), [])
        self.assertEqual(cells_of(box_of(house(), "g"), shaped(house()), 80), [27, 27, 26])

    def test_with_kids_as_without(self):
        doc = box("grid", "a", *ABC, more=2)
        self.assertEqual(cells_of(doc, shaped(doc), 9), [5, 4])


class Grid(Lines):
    def test_lines_of_n(self):
        kids = [blank(f"k{at}") for at in range(12)]
        for columns in range(1, 10):
            for many in range(1, 13):
                doc = box("grid", "a", *kids[:many], more=columns)
                lines = self.told(doc, 40)[0]
                self.assertEqual(sum(lines, []), list(range(many)))
                self.assertEqual({len(line) for line in lines[:-1]} - {columns}, set())
                self.assertTrue(1 <= len(lines[-1]) <= columns)

    def test_more_columns_than_kids(self):
        self.check(box("grid", "a", *ABC, more=9), 27, [[0, 1, 2]], [3, 3, 3], [])
        self.check(box("grid", "a", ABC[0], more=2), 9, [[0]], [5], [])

    def test_each_as_asked_by_its_cell(self):
        doc = box("grid", "a", *ABC, more=2)
        self.check(doc, 12, [[0, 1], [2]], [5, 3, 5], [])
        self.check(doc, 9, [[0, 1], [2]], [5, 3, 5], [])
        self.check(doc, 8, [[0, 1], [2]], [4, 3, 4], [])
        self.check(doc, 12, [[0, 1], [2]], [6, 6, 2], [], x={"wide": ("share", 1)}, y={"wide": ("fixed", 8)},
                   z={"wide": ("fixed", 2)})
        self.check(doc, 12, [[0, 1], [2]], [5, 3, 5], [], a={"pad": 1, "gap": 1})
        self.check(doc, 11, [[0, 1], [2]], [4, 3, 4], [], a={"pad": 1, "gap": 1})

    def test_no_wider_than_its_cell(self):
        doc = box("grid", "a", *ABC, more=2)
        self.check(doc, 5, [[0, 1], [2]], [3, 2, 3], [], x={"leastw": 9}, y={"leastw": 3})
        self.check(doc, 2, [[0, 1], [2]], [1, 1, 1], [])
        self.check(doc, 0, [[0, 1], [2]], [0, 0, 0], [])
        self.check(doc, 12, [[0, 1], [2]], [6, 6, 6], [], x={"leastw": 7, "mostw": 2}, y={"leastw": 6},
                   z={"wide": ("fixed", 6)})


class Row(Lines):
    def test_one_line(self):
        for many in range(1, 13):
            self.assertEqual(self.told(wide_row("a", many), 9)[0], [list(range(many))])

    def test_just_what_is_needed(self):
        doc = box("row", "a", *ABC)
        self.check(doc, 13, [[0, 1, 2]], [5, 3, 5], [[]])
        self.check(doc, 14, [[0, 1, 2]], [5, 3, 5], [[]])
        self.check(doc, 12, [[0, 1, 2]], [5, 3, 4], [[[0, 0, 1]]])
        self.check(doc, 6, [[0, 1, 2]], [2, 3, 1], [[[3, 0, 4]]])
        self.check(doc, 7, [[0, 1, 2]], [2, 3, 2], [[[3, 0, 3]]])

    def test_less_than_the_leasts(self):
        doc = box("row", "a", *ABC)
        self.check(doc, 5, [[0, 1, 2]], [2, 3, 1], [[[3, 0, 4]]])
        self.check(doc, 0, [[0, 1, 2]], [2, 3, 1], [[[3, 0, 4]]])
        self.check(doc, 3, [[0, 1, 2]], [2, 3, 1], [[[3, 0, 4]]], a={"pad": 9, "gap": 9})

    def test_shares(self):
        doc = box("row", "a", *ABC)
        shares = {"x": {"wide": ("share", 1)}, "z": {"wide": ("share", 3)}}
        self.check(doc, 6, [[0, 1, 2]], [2, 3, 1], [[]], **shares)
        self.check(doc, 7, [[0, 1, 2]], [2, 3, 2], [[[0, 0, 1]]], **shares)
        self.check(doc, 14, [[0, 1, 2]], [4, 3, 7], [[[2, 0, 6]]], **shares)
        self.check(doc, 5, [[0, 1, 2]], [2, 3, 1], [[]], **shares)

    def test_a_share_at_its_most(self):
        doc = box("row", "a", *ABC)
        self.check(doc, 14, [[0, 1, 2]], [3, 3, 8], [[[1, 0, 4], [0, 0, 3]]],
                   x={"wide": ("share", 1), "mostw": 3}, z={"wide": ("share", 1)})
        self.check(doc, 14, [[0, 1, 2]], [3, 3, 5], [[[1, 0, 0]]], x={"wide": ("share", 1), "mostw": 3})

    def test_a_share_whose_most_is_below_its_least(self):
        doc = box("row", "a", *ABC)
        self.check(doc, 30, [[0, 1, 2]], [9, 3, 5], [[]], x={"wide": ("share", 1), "leastw": 9, "mostw": 4})

    def test_fixed(self):
        doc = box("row", "a", *ABC)
        self.check(doc, 13, [[0, 1, 2]], [7, 3, 3], [[[0, 0, 2]]], x={"wide": ("fixed", 7)})
        self.check(doc, 2, [[0, 1, 2]], [7, 3, 1], [[[0, 0, 4]]], x={"wide": ("fixed", 7)})
        self.check(doc, 20, [[0, 1, 2]], [8, 3, 5], [[]], x={"wide": ("fixed", 7), "leastw": 8})
        self.check(doc, 20, [[0, 1, 2]], [1, 3, 5], [[]], x={"wide": ("fixed", 7), "mostw": 1})

    def test_gaps_and_pads(self):
        doc = box("row", "a", *ABC)
        self.check(doc, 19, [[0, 1, 2]], [5, 3, 5], [[]], a={"gap": 2, "pad": 1})
        self.check(doc, 18, [[0, 1, 2]], [5, 3, 4], [[[0, 0, 1]]], a={"gap": 2, "pad": 1})
        self.check(doc, 20, [[0, 1, 2]], [6, 3, 5], [[[4, 0, 0]]], a={"gap": 2, "pad": 1}, x={"wide": ("share", 1)})

    def test_of_any_width(self):
        doc = box("row", "a", *ABC)
        self.check(doc, 10 ** 30, [[0, 1, 2]], [400, 3, 5], [[[398, 0, 0]]], x={"wide": ("share", 1)})


class Flow(Lines):
    def test_the_next_just_fits_and_doesnt(self):
        doc = box("flow", "a", *ABC)
        self.check(doc, 13, [[0, 1, 2]], [5, 3, 5], [[]])
        self.check(doc, 12, [[0, 1], [2]], [5, 3, 5], [[], []])
        self.check(doc, 8, [[0, 1], [2]], [5, 3, 5], [[], []])
        self.check(doc, 7, [[0], [1], [2]], [5, 3, 5], [[], [], []])
        self.check(doc, 4, [[0], [1], [2]], [4, 3, 4], [[], [], []])

    def test_with_gaps_and_pads(self):
        doc = box("flow", "a", *ABC)
        self.check(doc, 19, [[0, 1, 2]], [5, 3, 5], [[]], a={"gap": 2, "pad": 1})
        self.check(doc, 18, [[0, 1], [2]], [5, 3, 5], [[], []], a={"gap": 2, "pad": 1})
        self.check(doc, 12, [[0, 1], [2]], [5, 3, 5], [[], []], a={"gap": 2, "pad": 1})
        self.check(doc, 11, [[0], [1], [2]], [5, 3, 5], [[], [], []], a={"gap": 2, "pad": 1})

    def test_narrower_than_the_leasts(self):
        doc = box("flow", "a", *ABC)
        for wide in [0, 1]:
            self.check(doc, wide, [[0], [1], [2]], [2, 3, 1], [[], [], []])

    def test_those_of_no_width_stay_in_the_line(self):
        doc = box("flow", "a", blank("x"), blank("y"), blank("z"))
        self.check(doc, 0, [[0, 1, 2]], [0, 0, 0], [[]])
        self.check(doc, 0, [[0], [1], [2]], [0, 0, 0], [[], [], []], a={"gap": 1})
        self.check(doc, 1, [[0, 1], [2]], [0, 0, 0], [[], []], a={"gap": 1})

    def test_shares_begin_at_their_least_and_fill_the_line(self):
        doc = box("flow", "a", *ABC)
        self.check(doc, 8, [[0, 1, 2]], [2, 3, 3], [[[0, 0, 2]]], x={"mostw": 2}, z={"wide": ("share", 1)})
        self.check(doc, 10, [[0, 1, 2]], [6, 3, 1], [[[4, 0, 0]]], x={"wide": ("share", 1)}, z={"mostw": 1})
        self.check(doc, 6, [[0, 1], [2]], [3, 3, 5], [[[1, 0]], []], x={"wide": ("share", 1)})
        self.check(doc, 20, [[0, 1, 2]], [12, 3, 5], [[[10, 0, 0]]], x={"wide": ("share", 1)})

    def test_each_line_by_itself(self):
        doc = box("flow", "a", *ABC)
        shares = {name: {"wide": ("share", 1), "leastw": 5} for name in "xyz"}
        self.check(doc, 12, [[0, 1], [2]], [6, 6, 12], [[[1, 1]], [[7]]], **shares)

    def test_fixed(self):
        doc = box("flow", "a", *ABC)
        self.check(doc, 10, [[0, 1], [2]], [7, 3, 5], [[], []], x={"wide": ("fixed", 7)})
        self.check(doc, 9, [[0], [1, 2]], [7, 3, 5], [[], []], x={"wide": ("fixed", 7)})
        self.check(doc, 3, [[0], [1], [2]], [7, 3, 3], [[], [], []], x={"wide": ("fixed", 7)})
        self.check(doc, 13, [[0, 1, 2]], [1, 3, 5], [[]], x={"wide": ("fixed", 7), "mostw": 1})

    def test_a_held_one_alone_is_not_wider_than_the_inside(self):
        doc = box("flow", "a", words("x", "aa bb cc dd"), words("y", "e"))
        self.check(doc, 7, [[0], [1]], [7, 1], [[], []])
        self.check(doc, 11, [[0], [1]], [11, 1], [[], []])
        self.check(doc, 12, [[0, 1]], [11, 1], [[]])

    def test_the_first_may_be_wider_than_the_inside(self):
        doc = box("flow", "a", blank("x"), blank("y"))
        self.check(doc, 5, [[0], [1]], [9, 0], [[], []], x={"wide": ("fixed", 9)})


class Drawn(Lines):
    def test_as_told_another_way(self):
        for seed in range(400):
            doc = drawn_document(seed)
            shapes = drawn_shapes(doc, seed)
            needs = needs_of(doc, shapes)
            laid = lay_by_hand(doc, shapes, [0, 1, 5, 20, 80, 400][seed % 6]).all()
            for one, inner in zip(laid, boxes_of(doc)):
                told = (lines_of(inner, shapes, needs, one.wide), cells_of(inner, shapes, one.wide),
                        widths_of(inner, shapes, needs, one.wide), rounds_of(inner, shapes, needs, one.wide))
                self.assertEqual(told, (one.lines, one.cells, one.widths, one.across))

    def test_what_is_shared_out_sums_to_the_last_cell(self):
        doc = wide_row("a", 12)
        for wide in range(60):
            shapes = shaped(doc, **{f"k{at}": {"wide": ("share", at + 1)} for at in range(12)})
            self.assertEqual(sum(widths_of(doc, shapes, needs_of(doc, shapes), wide)), wide)


class AsItWas(unittest.TestCase):
    def test_what_is_handed_in_stays(self):
        for seed in range(20):
            doc = drawn_document(seed)
            shapes = drawn_shapes(doc, seed)
            needs = needs_of(doc, shapes)
            ahead = copy.deepcopy((shapes, needs))
            for inner in boxes_of(doc):
                for ask in [lines_of, widths_of, rounds_of]:
                    ask(inner, shapes, needs, 13)
                cells_of(inner, shapes, 13)
            self.assertEqual((shapes, needs), ahead)
            self.assertEqual(doc, drawn_document(seed))

    def test_what_is_told_is_the_askers_own(self):
        doc = box("flow", "a", box("grid", "g", *ABC, more=2), box("row", "r", blank("k")))
        shapes = shaped(doc, k={"wide": ("share", 1)})
        needs = needs_of(doc, shapes)
        for inner in boxes_of(doc):
            for ask in [lines_of, widths_of, rounds_of]:
                told = ask(inner, shapes, needs, 13)
                ahead = copy.deepcopy(told)
                for part in told:
                    if isinstance(part, list):
                        part.append(99)
                told.append(99)
                self.assertEqual(ask(inner, shapes, needs, 13), ahead)
            cells_of(inner, shapes, 13).append(99)
        self.assertEqual(cells_of(box_of(doc, "g"), shapes, 13), [7, 6])
