import copy
import random

from retold import failing_by_hand
from samples import (STRANGE, Refusing, blank, box, chain, crowd, drawn_document, drawn_shapes, house, not_numbers,
                     shaped, words)
from panehouse.boxes import names_of
from panehouse.checker import failing
from panehouse.errors import NoPage
from panehouse.laying import layout_of
from panehouse.papers import papers_of

SHARE = ("share", 1)


def inn():
    """A document with a row, a column, a flow, a grid and a pile, each with something shared out or taken away."""
    return box("column", "a", box("row", "r", words("x", "ab cd"), blank("y")),
               box("flow", "f", words("k", "abc"), words("l", "def gh"), words("m", "ij")),
               box("grid", "g", words("n", "op"), words("o", "qrs"), words("p", "tu"), more=2),
               box("pile", "q", words("s", "one two"), blank("t")))


def inn_shapes():
    return shaped(inn(), a={"wide": SHARE, "high": SHARE, "pad": 1, "gap": 1}, r={"wide": SHARE, "high": SHARE},
                  y={"wide": SHARE, "high": SHARE, "mostw": 9}, f={"wide": ("fixed", 9)}, m={"wide": SHARE},
                  g={"gap": 2}, q={"high": ("share", 2), "mosth": 7}, t={"leastw": 4, "high": SHARE})


class Checked(Refusing):
    def setUp(self):
        self.doc, self.shapes, self.page = inn(), inn_shapes(), (20, 24)
        self.layout = layout_of(self.doc, self.shapes, *self.page)
        self.papers = papers_of(self.doc, self.shapes, *self.page)

    def told(self, layout, papers):
        told = failing(self.doc, self.shapes, *self.page, layout, papers)
        self.assertIs(type(told), list)
        return told

    def fails(self, layout=None, papers=None):
        """Those that fail where something is put in the place of what is right."""
        return self.told(dict(self.layout, **(layout or {})), dict(self.papers, **(papers or {})))

    def with_paper(self, name, at, thing):
        paper = self.papers[name]
        return self.fails(papers={name: paper[:at] + (thing,) + paper[at + 1:]})

    def with_spot(self, name, at, thing):
        spot = self.layout[name]
        return self.fails({name: spot[:at] + (thing,) + spot[at + 1:]})


class Right(Checked):
    def test_nobody_fails(self):
        self.assertEqual(self.fails(), [])

    def test_drawn_ones(self):
        for seed in range(200):
            doc = drawn_document(seed)
            shapes = drawn_shapes(doc, seed)
            page = [(80, 24), (5, 3), (30, 400), (0, 0), (400, 400)][seed % 5]
            layout, papers = layout_of(doc, shapes, *page), papers_of(doc, shapes, *page)
            self.assertEqual(failing(doc, shapes, *page, layout, papers), [])

    def test_many_boxes(self):
        for doc in [house(), chain(8), crowd(40), blank("a")]:
            shapes = shaped(doc)
            self.assertEqual(failing(doc, shapes, 80, 24, layout_of(doc, shapes), papers_of(doc, shapes)), [])

    def test_names_that_the_document_hasnt(self):
        for thing in STRANGE:
            self.assertEqual(self.fails({"none": thing}, {"none": thing}), [])
        self.assertEqual(self.fails({"none": (0, 0, 1, 1)}, {"none": (0, 0, 0, [], [], [])}), [])

    def test_the_dicts_order(self):
        layout = dict(reversed(list(self.layout.items())))
        papers = dict(sorted(self.papers.items()))
        self.assertEqual(self.told(layout, papers), [])


class Wrong(Checked):
    """Who fails: the box itself and those that look at it, by the numbers that stand there."""

    def test_a_place(self):
        self.assertEqual(self.with_spot("x", 0, 2), ["r"])
        self.assertEqual(self.with_spot("x", 1, 0), ["r"])
        # A box that is moved with no kid of its is out of place for its kids, too.
        self.assertEqual(self.with_spot("r", 0, 2), ["a", "r"])
        self.assertEqual(self.with_spot("a", 0, 1), ["a"])
        self.assertEqual(self.with_spot("a", 0, -1), ["a"])

    def test_all_moved_along(self):
        moved = {name: (x + 1, y - 30, wide, high) for name, (x, y, wide, high) in self.layout.items()}
        self.assertEqual(self.told(moved, self.papers), ["a"])
        apart = {name: self.layout[name][:2] for name in "rxy"}
        self.assertEqual(self.fails({name: (x + 5, y) + self.layout[name][2:] for name, (x, y) in apart.items()}),
                         ["a"])

    def test_a_width_and_a_height(self):
        self.assertEqual(self.with_spot("x", 2, self.layout["x"][2] + 1), ["r"])
        self.assertEqual(self.with_spot("x", 3, self.layout["x"][3] + 1), ["r"])
        self.assertEqual(self.with_spot("y", 2, 8), ["r"])
        self.assertEqual(self.with_spot("q", 3, self.layout["q"][3] - 1), ["a", "q"])

    def test_needs(self):
        self.assertEqual(self.with_paper("x", 0, 1), ["r", "x"])
        self.assertEqual(self.with_paper("x", 1, 6), ["r", "x"])
        self.assertEqual(self.with_paper("a", 0, 1), ["a"])

    def test_natural_heights(self):
        self.assertEqual(self.with_paper("x", 2, 2), ["r", "x"])
        self.assertEqual(self.with_paper("x", 2, 0), ["r", "x"])
        self.assertEqual(self.with_paper("a", 2, 1), ["a"])
        # t is a share in a pile, and lower than its fellow: nothing else is as high by it.
        self.assertEqual(self.with_paper("t", 2, 1), ["t"])

    def test_what_is_in_the_lists_is_looked_at_by_the_box_alone(self):
        lines, across, down = self.papers["r"][3:]
        for other in [[["y", "x"]], [["x"], ["y"]], [["x", "y"], []], [["x"]], [], [["x", "y", "y"]], [("x", "y")],
                      [[0, 1]], [["x", "a"]], ["x", "y"], [None], [[None, None]]]:
            self.assertEqual(self.with_paper("r", 3, other), ["r"])
        for other in [[], [[]], [[[0, 8]]], [[[0, 9], [0, 0]]], [[[0, 9]], []], [[[0, 9, 0]]], [[[0]]], [[[False, 9]]],
                      [[(0, 9)]], [([0, 9],)], [[[0, 9.0]]], [[["0", "9"]]], [[0, 9]], [0, 9], [None], [[None]]]:
            self.assertEqual(self.with_paper("r", 4, other), ["r"])
        for other in [[[]], [[0]], [0], [None], [[], []]]:
            self.assertEqual(self.with_paper("r", 5, other), ["r"])
        self.assertEqual((lines, across, down), ([["x", "y"]], [[[0, 9]]], []))

    def test_rounds_down(self):
        down = self.papers["a"][5]
        self.assertGreater(len(down), 1)
        for other in [down[:-1], down + [down[-1]], down + [[0] * 4], down[::-1], [], [tuple(down[0])] + down[1:]]:
            self.assertEqual(self.with_paper("a", 5, other), ["a"])

    def test_leaves_have_no_lists(self):
        for at in [3, 4, 5]:
            for other in [[[]], [0], ["x"]]:
                self.assertEqual(self.with_paper("x", at, other), ["x"])

    def test_the_root_by_the_page(self):
        for page in [(21, 24), (19, 24), (20, 25), (20, 23)]:
            self.assertEqual(failing(self.doc, self.shapes, *page, self.layout, self.papers), ["a"])
        for others in [{"wide": ("fixed", 9)}, {}, {"high": ("fixed", 9)}]:
            shapes = dict(self.shapes, a=dict(self.shapes["a"], wide=("hold",), high=("hold",)))
            shapes["a"].update(others)
            layout, papers = layout_of(self.doc, shapes, 20, 24), papers_of(self.doc, shapes, 20, 24)
            self.assertEqual(failing(self.doc, shapes, 20, 24, layout, papers), [])
            self.assertEqual(failing(self.doc, shapes, 20, 400, layout, papers), [])


class Forms(Checked):
    def test_a_tuple_that_isnt_there(self):
        for name, fail in [("x", ["r", "x"]), ("r", ["a", "r"]), ("a", ["a"])]:
            layout = dict(self.layout)
            layout.pop(name)
            self.assertEqual(self.told(layout, self.papers), fail)
            papers = dict(self.papers)
            papers.pop(name)
            self.assertEqual(self.told(self.layout, papers), fail)

    def test_nothing_there(self):
        self.assertEqual(self.told({}, self.papers), names_of(self.doc))
        self.assertEqual(self.told(self.layout, {}), names_of(self.doc))
        self.assertEqual(self.told({}, {}), names_of(self.doc))

    def test_tuples_of_another_form(self):
        spot = self.layout["x"]
        for thing in STRANGE + [(), spot[:3], spot + (0,), list(spot), (spot,), 5, spot[:3] + (None,)]:
            self.assertEqual(self.fails({"x": thing}), ["r", "x"])
        for at in range(4):
            for thing in [None, "1", 1.0, float(spot[at]), [spot[at]], STRANGE[-2]]:
                self.assertEqual(self.with_spot("x", at, thing), ["r", "x"])

    def test_truths_are_no_numbers(self):
        doc = box("row", "a", words("x", "b"))
        shapes = shaped(doc, a={"pad": 1})
        layout, papers = layout_of(doc, shapes), papers_of(doc, shapes)
        self.assertEqual((layout["x"], papers["x"]), ((1, 1, 1, 1), (1, 1, 1, [], [], [])))
        for at in range(4):
            other = layout["x"][:at] + (True,) + layout["x"][at + 1:]
            self.assertEqual(failing(doc, shapes, 80, 24, dict(layout, x=other), papers), ["a", "x"])
        for at in range(3):
            other = papers["x"][:at] + (True,) + papers["x"][at + 1:]
            self.assertEqual(failing(doc, shapes, 80, 24, layout, dict(papers, x=other)), ["a", "x"])
        for at in range(2):
            other = layout["a"][:at] + (False,) + layout["a"][at + 1:]
            self.assertEqual(failing(doc, shapes, 80, 24, dict(layout, a=other), papers), ["a"])

    def test_papers_of_another_form(self):
        paper = self.papers["x"]
        for thing in STRANGE + [(), paper[:5], paper + ([],), list(paper), (paper,), 5, paper[3:] + paper[:3]]:
            self.assertEqual(self.fails(papers={"x": thing}), ["r", "x"])
        for at in range(3):
            for thing in STRANGE + [401, [1]]:
                self.assertEqual(self.with_paper("x", at, thing), ["r", "x"])
        for at in [3, 4, 5]:
            for thing in STRANGE + [(), 0, "x"]:
                self.assertEqual(self.with_paper("x", at, thing), ["r", "x"])

    def test_numbers_to_400(self):
        for at in [2, 3]:
            for n in [401, -1, 10 ** 30]:
                self.assertEqual(self.with_spot("x", at, n), ["r", "x"])
        for at in [0, 1]:
            for n in [-10 ** 30, 10 ** 30, 401]:
                self.assertEqual(self.with_spot("x", at, n), ["r"])

    def test_least_not_above_hold(self):
        # y is a share of no needs in a row whose needs are fixed: only the form is wrong for the row.
        shapes = dict(self.shapes, r=dict(self.shapes["r"], wide=("fixed", 18)))
        layout, papers = layout_of(self.doc, shapes, 20, 24), papers_of(self.doc, shapes, 20, 24)
        self.assertEqual(failing(self.doc, shapes, 20, 24, layout, papers), [])
        for pair, fail in [((0, 1), ["y"]), ((1, 0), ["r", "y"])]:
            other = dict(papers, y=pair + papers["y"][2:])
            self.assertEqual(failing(self.doc, shapes, 20, 24, layout, other), fail)


class NotTold(Checked):
    def test_where_stage_1_would_refuse(self):
        # As its paper has it, k begins at its most, which is below its least: no part is so.
        doc = box("flow", "f", words("k", "abc"))
        shapes = shaped(doc, f={"wide": ("fixed", 2)}, k={"mostw": 2})
        layout, papers = layout_of(doc, shapes), papers_of(doc, shapes)
        self.assertEqual(papers["k"][:2], (2, 2))
        self.assertEqual(failing(doc, shapes, 80, 24, layout, papers), [])
        other = dict(papers, k=(3, 3) + papers["k"][2:])
        self.assertEqual(failing(doc, shapes, 80, 24, layout, other), ["f", "k"])


class Spoilt(Checked):
    """With one thing changed somebody fails, and just those that fail as told another way."""

    def check(self, layout, papers):
        told = self.told(layout, papers)
        self.assertEqual(told, failing_by_hand(self.doc, self.shapes, *self.page, layout, papers))
        self.assertNotEqual(told, [])

    def check_both(self, name, layout_thing, papers_thing):
        if layout_thing is not None:
            self.check(dict(self.layout, **{name: layout_thing}), self.papers)
        if papers_thing is not None:
            self.check(self.layout, dict(self.papers, **{name: papers_thing}))

    def spoil_all(self):
        for name in names_of(self.doc):
            spot, paper = self.layout[name], self.papers[name]
            for at in range(4):
                for n in [spot[at] + 1, spot[at] - 1, spot[at] + 400, spot[at] == 1]:
                    self.check_both(name, spot[:at] + (n,) + spot[at + 1:], None)
            for at in range(3):
                for n in [paper[at] + 1, paper[at] - 1, paper[at] + 400, paper[at] == 1]:
                    self.check_both(name, None, paper[:at] + (n,) + paper[at + 1:])
            for at in range(3, 6):
                for rows in [paper[at] + [[]], paper[at][:-1], [[]] + paper[at], paper[at] * 2, paper[at][::-1]]:
                    if rows != paper[at]:
                        self.check_both(name, None, paper[:at] + (rows,) + paper[at + 1:])

    def test_the_inn(self):
        self.spoil_all()

    def test_numbers_within_the_lists(self):
        for name, at, depth in [("r", 4, 3), ("f", 4, 3), ("a", 5, 2)]:
            for change in [1, -1]:
                paper = copy.deepcopy(self.papers[name])
                rows = [row for row in paper[at] if row][0]
                rows = rows[0] if depth == 3 else rows
                rows[0] += change
                self.check_both(name, None, paper)

    def test_drawn_ones(self):
        for seed in range(40):
            self.doc = drawn_document(seed)
            self.shapes = drawn_shapes(self.doc, seed)
            self.page = [(80, 24), (9, 5), (30, 300)][seed % 3]
            self.layout = layout_of(self.doc, self.shapes, *self.page)
            self.papers = papers_of(self.doc, self.shapes, *self.page)
            if len(self.layout) < 25:
                self.spoil_all()

    def test_several_at_once(self):
        chance = random.Random(5)
        for many in range(300):
            layout, papers = dict(self.layout), dict(self.papers)
            for name in chance.sample(names_of(self.doc), chance.choice([2, 3, 9])):
                spot, paper = layout[name], papers[name]
                at = chance.randrange(4)
                layout[name] = spot[:at] + (spot[at] + chance.choice([-1, 1, 2]),) + spot[at + 1:]
                at = chance.randrange(3)
                papers[name] = paper[:at] + (paper[at] + chance.choice([-1, 1, 2]),) + paper[at + 1:]
            self.assertEqual(self.told(layout, papers),
                             failing_by_hand(self.doc, self.shapes, *self.page, layout, papers))


class Refused(Checked):
    def test_no_page(self):
        for size in not_numbers() + [401, 10 ** 30]:
            with self.subTest(repr(size)[:40]):
                self.refused_as(NoPage, failing, self.doc, self.shapes, size, 24, self.layout, self.papers)
                self.refused_as(NoPage, failing, self.doc, self.shapes, 80, size, {}, {})


class AsItWas(Checked):
    def test_what_is_handed_in_stays(self):
        ahead = copy.deepcopy((self.shapes, self.layout, self.papers))
        self.fails()
        self.with_paper("r", 4, [])
        self.assertEqual((self.shapes, self.layout, self.papers), ahead)
        self.assertEqual(self.doc, inn())

    def test_what_is_told_is_the_askers_own(self):
        told = self.with_spot("x", 0, 2)
        told.append("q")
        self.assertEqual(self.with_spot("x", 0, 2), ["r"])
        self.fails().append("q")
        self.assertEqual(self.fails(), [])
