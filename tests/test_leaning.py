import copy
import random
from unittest import mock

from retold import laid_by_hand, taken_by_hand
from samples import (Refusing, blank, box, drawn_document, drawn_rules, house, no_documents, no_rules, not_numbers, row,
                     words)
from panehouse.boxes import boxes_of, names_of
from panehouse.checker import failing
from panehouse.edits import with_kid, with_tags, with_text, without
from panehouse.errors import NoBox, NoPage, NoRule
from panehouse.laying import Across, Down, layout_of
from panehouse.leaning import Page
from panehouse.papers import papers_of
from panehouse.shapes import shapes_of

WIDE = ("wide", ("share", 1))
HIGH = ("high", ("share", 1))
RULES = ((1, (("name", "a"),), (WIDE, HIGH)), (1, (("tag", "big"),), (WIDE, ("pad", 1))))
NO_SIZES = not_numbers() + [401, 10 ** 30]


def inn():
    """A column a of two rows: r with words x and y, s with words z and a blank t."""
    return box("column", "a", row("r", words("x", "ab cd"), words("y", "ef")), row("s", words("z", "gh"), blank("t")))


class Leaning(Refusing):
    def whole(self, page, doc, rules, wide, high):
        """All that a page tells is what laying all anew tells, and nobody fails."""
        shapes = shapes_of(doc, rules)
        self.assertEqual(page.document(), doc)
        self.assertEqual(page.rules(), tuple(rules))
        self.assertIs(type(page.rules()), tuple)
        self.assertEqual(page.size(), (wide, high))
        self.assertEqual(repr(page.shapes()), repr(shapes))
        self.assertEqual(repr(page.layout()), repr(layout_of(doc, shapes, wide, high)))
        self.assertEqual(repr(page.papers()), repr(papers_of(doc, shapes, wide, high)))
        self.assertEqual(failing(doc, shapes, wide, high, page.layout(), page.papers()), [])


class Made(Leaning):
    def test_at_first_all_are_new(self):
        page = Page(inn(), RULES, 20, 10)
        self.whole(page, inn(), RULES, 20, 10)
        self.assertEqual(page.laid(), [(name, ("new",)) for name in "arxyszt"])

    def test_what_is_not_told(self):
        self.whole(Page(house()), house(), (), 80, 24)
        self.whole(Page(house(), None), house(), (), 80, 24)
        self.whole(Page(house(), []), house(), (), 80, 24)
        self.whole(Page(house(), list(RULES)), house(), RULES, 80, 24)
        self.whole(Page(house(), RULES, 33), house(), RULES, 33, 24)
        self.whole(Page(house(), None, 0, 400), house(), (), 0, 400)

    def test_drawn_ones(self):
        for seed in range(60):
            self.whole(Page(drawn_document(seed), drawn_rules(seed), 30, 30), drawn_document(seed), drawn_rules(seed),
                       30, 30)


class Become(Leaning):
    def told(self, doc, behind, rules=RULES):
        page = Page(doc, rules, 20, 10)
        self.assertIsNone(page.become(behind))
        self.whole(page, behind, rules, 20, 10)
        return page.laid()

    def test_nothing_changes(self):
        self.assertEqual(self.told(inn(), inn()), [])
        self.assertEqual(self.told(inn(), with_tags(inn(), "x", ("new",))), [])

    def test_another_text(self):
        # As wide as ahead, so it is nothing for the boxes about it.
        self.assertEqual(self.told(inn(), with_text(inn(), "x", "aq cq")), [("x", ("box",))])
        told = self.told(inn(), with_text(inn(), "x", "ab cde"))
        self.assertEqual(told, [("a", ("kids",)), ("r", ("kids", "wide")), ("x", ("box", "wide"))])

    def test_one_that_only_moves_isnt_laid(self):
        # y moves along, by one to the right; s below it moves down where r is higher.
        self.assertNotIn("y", dict(self.told(inn(), with_text(inn(), "x", "ab cde"))))
        rules = [(1, (("name", "x"),), (("mostw", 2),))]
        told = self.told(inn(), with_text(inn(), "x", "ab cd ef"), rules)
        self.assertEqual(told, [("a", ("kids", "high")), ("r", ("kids", "high")), ("x", ("box", "high"))])

    def test_a_kid_that_comes(self):
        told = self.told(inn(), with_kid(inn(), "r", words("new", "q"), 0))
        self.assertEqual(told, [("a", ("kids",)), ("r", ("box", "shape", "kids", "wide")), ("new", ("new",))])
        told = self.told(inn(), with_kid(inn(), "s", blank("new")))
        self.assertEqual(told, [("s", ("box", "shape", "kids")), ("new", ("new",))])

    def test_a_kid_that_goes(self):
        told = self.told(inn(), without(inn(), "y"))
        self.assertEqual(told, [("a", ("kids",)), ("r", ("box", "shape", "kids", "wide"))])
        told = self.told(inn(), without(inn(), "t"))
        self.assertEqual(told, [("s", ("box", "shape", "kids"))])

    def test_a_kid_that_changes_its_place(self):
        a, r, s = boxes_of(inn())[0], inn()[4][0], inn()[4][1]
        # Rows that are alike in another order are another row only where the order shows.
        told = self.told(inn(), a[:4] + ((s, r),))
        self.assertEqual(told, [("a", ("box", "kids"))])
        blanks = row("a", blank("x"), blank("y"))
        self.assertEqual(self.told(blanks, row("a", blank("y"), blank("x"))), [("a", ("box",))])
        tagged = row("a", blank("x", ("big",)), blank("y"))
        told = self.told(tagged, row("a", blank("y"), blank("x", ("big",))))
        self.assertEqual(told, [("a", ("box", "shape", "kids"))])

    def test_boxes_that_change_their_names_with_each_other(self):
        told = self.told(row("a", words("x", "ab"), words("y", "cd")), row("a", words("y", "ab"), words("x", "cd")))
        self.assertEqual(told, [("a", ("box",)), ("y", ("box",)), ("x", ("box",))])

    def test_another_kind_or_other_columns(self):
        told = self.told(box("row", "a", blank("x")), box("column", "a", blank("x")))
        self.assertEqual(told, [("a", ("box",))])
        told = self.told(box("grid", "a", blank("x"), more=2), box("grid", "a", blank("x"), more=3))
        self.assertEqual(told, [("a", ("box",))])

    def test_other_tags_that_a_rule_asks_for(self):
        told = self.told(inn(), with_tags(inn(), "s", ("big",)))
        self.assertEqual(told, [("a", ("shape", "kids")), ("s", ("shape", "wide", "high"))])
        told = self.told(inn(), with_tags(inn(), "t", ("big",)))
        self.assertEqual(told, [("a", ("kids",)), ("s", ("shape", "kids", "wide", "high")),
                                ("t", ("shape", "wide", "high"))])

    def test_a_box_that_was_gone_is_new_again(self):
        page = Page(inn(), RULES, 20, 10)
        page.become(without(inn(), "t"))
        page.become(inn())
        self.assertEqual(page.laid(), [("s", ("box", "shape", "kids")), ("t", ("new",))])

    def test_a_box_elsewhere_is_the_same(self):
        told = self.told(inn(), with_kid(without(inn(), "t"), "r", blank("t")))
        self.assertEqual(told, [("r", ("box", "shape", "kids")), ("s", ("box", "shape", "kids"))])

    def test_another_root(self):
        told = self.told(inn(), box("column", "b", row("r", words("x", "ab cd"), words("y", "ef"))), ())
        self.assertEqual(told, [("b", ("new",))])


class Resize(Leaning):
    def told(self, *size, rules=RULES):
        page = Page(inn(), rules, 20, 10)
        self.assertIsNone(page.resize(*size))
        self.whole(page, inn(), rules, *size)
        return page.laid()

    def test_the_same_size(self):
        self.assertEqual(self.told(20, 10), [])

    def test_where_nothing_is_shared(self):
        self.assertEqual(self.told(50, 50, rules=()), [])
        self.assertEqual(self.told(7, 2, rules=()), [])
        told = self.told(6, 2, rules=())
        self.assertEqual(told, [("a", ("kids", "wide", "high")), ("r", ("kids", "wide", "high")),
                                ("x", ("wide", "high"))])

    def test_where_the_root_is_a_share(self):
        self.assertEqual(self.told(21, 10), [("a", ("wide",))])
        self.assertEqual(self.told(20, 11), [("a", ("high",))])
        self.assertEqual(self.told(21, 11), [("a", ("wide", "high"))])

    def test_narrower_than_what_is_within(self):
        told = self.told(5, 10)
        self.assertEqual(told, [("a", ("kids", "wide")), ("r", ("kids", "wide", "high")), ("x", ("wide", "high"))])


class Reset(Leaning):
    def told(self, rules, ahead=RULES):
        page = Page(inn(), ahead, 20, 10)
        self.assertIsNone(page.reset(rules))
        self.whole(page, inn(), rules, 20, 10)
        return page.laid()

    def test_the_same_rules(self):
        self.assertEqual(self.told(RULES), [])
        self.assertEqual(self.told(list(RULES)), [])
        self.assertEqual(self.told(RULES[::-1]), [])

    def test_rules_that_tell_the_same(self):
        self.assertEqual(self.told(RULES + ((1, (("name", "none"),), (("pad", 9),)), (0, (), (("pad", 0),)))), [])

    def test_a_shape_that_changes_nothing_else(self):
        told = self.told(RULES + ((1, (("name", "t"),), (("ink", "great"),)),))
        self.assertEqual(told, [("s", ("shape",)), ("t", ("shape",))])
        told = self.told(RULES + ((1, (("name", "a"),), (("able", True),)),))
        self.assertEqual(told, [("a", ("shape",))])

    def test_what_goes_down(self):
        told = self.told(RULES + ((1, (("name", "s"),), (("ink", "great"),)),))
        self.assertEqual(told, [("a", ("shape",)), ("s", ("shape",)), ("z", ("shape",)), ("t", ("shape",))])

    def test_none(self):
        self.assertEqual(self.told(()), [("a", ("shape", "wide", "high"))])
        self.assertEqual(self.told([]), [("a", ("shape", "wide", "high"))])


class Drawn(Leaning):
    def deed(self, chance, page, state):
        doc, rules, wide, high = state
        which = chance.randrange(7)
        name = chance.choice(names_of(doc))
        if which == 0:
            state = (doc, rules, chance.choice([0, 7, 20, 21, 80, 400]), chance.choice([0, 5, 24, 25, 400]))
            page.resize(*state[2:])
            return state
        if which == 1:
            state = (doc, tuple(drawn_rules(chance.randrange(99), chance.choice([0, 3, 12]))), wide, high)
            page.reset(state[1])
            return state
        try:
            behind = [lambda: drawn_document(chance.randrange(99)), lambda: without(doc, name),
                      lambda: with_kid(doc, name, words("new", "q r"), 0), lambda: with_tags(doc, name, ("red",)),
                      lambda: with_text(doc, name, chance.choice(["", "aa", "aa bb", "bb aa"]))][which - 2]()
        except ValueError:
            behind = doc
        page.become(behind)
        return (behind, rules, wide, high)

    def test_many_deeds(self):
        for seed in range(40):
            chance = random.Random(seed)
            state = (drawn_document(seed), tuple(drawn_rules(seed, 6)), 40, 24)
            page = Page(*state)
            for many in range(12):
                doc, rules, wide, high = state
                ahead = taken_by_hand(doc, shapes_of(doc, rules), wide, high)
                state = self.deed(chance, page, state)
                doc, rules, wide, high = state
                self.whole(page, *state)
                behind = taken_by_hand(doc, shapes_of(doc, rules), wide, high)
                self.assertEqual(page.laid(), laid_by_hand(ahead, behind))


class OnlyThose(Leaning):
    """What isn't told as laid isn't laid behind the scenes either."""

    def laid_by(self, deed):
        with mock.patch("panehouse.laying.Across", wraps=Across) as across:
            with mock.patch("panehouse.laying.Down", wraps=Down) as down:
                deed()
        return [call.args[0][1] for call in across.mock_calls], [call.args[0][1] for call in down.mock_calls]

    def test_what_is_laid(self):
        page = Page(inn(), RULES, 20, 10)
        self.assertEqual(self.laid_by(lambda: page.become(inn())), ([], []))
        self.assertEqual(self.laid_by(lambda: page.become(with_text(inn(), "x", "aq cq"))), (["x"], ["x"]))
        self.assertEqual(self.laid_by(lambda: page.resize(21, 11)), (["a"], ["a"]))
        # Another height alone is nothing for what is across.
        self.assertEqual(self.laid_by(lambda: page.resize(21, 12)), ([], ["a"]))
        self.assertEqual(self.laid_by(lambda: Page(inn())), (list("arxyszt"), list("arxyszt")))


class Refused(Leaning):
    def test_made_in_this_order(self):
        for doc in no_documents():
            for rules, wide in [(None, 80), ([5], 80), (5, 401), ((), None)]:
                self.refused_as(NoBox, Page, doc, rules, wide, 24)
        for rules in no_rules():
            if rules is not None:
                for wide, high in [(80, 24), (401, 24), (80, None)]:
                    self.refused_as(NoRule, Page, house(), rules, wide, high)
        for size in NO_SIZES:
            self.refused_as(NoPage, Page, house(), None, size, 24)
            self.refused_as(NoPage, Page, house(), RULES, 80, size)

    def test_deeds(self):
        page = Page(inn(), RULES, 20, 10)
        page.become(with_text(inn(), "x", "aq cq"))
        for doc in no_documents():
            self.refused_as(NoBox, page.become, doc)
        for size in NO_SIZES:
            self.refused_as(NoPage, page.resize, size, 10)
            self.refused_as(NoPage, page.resize, 20, size)
        for rules in no_rules():
            self.refused_as(NoRule, page.reset, rules)
        # What is refused changes nothing, nor what is told as laid.
        self.whole(page, with_text(inn(), "x", "aq cq"), RULES, 20, 10)
        self.assertEqual(page.laid(), [("x", ("box",))])

    def test_behind_a_refusal_the_next_deed_is_told_from_the_last_done(self):
        page = Page(inn(), RULES, 20, 10)
        self.refused_as(NoPage, page.resize, 401, 10)
        self.assertEqual(page.laid(), [(name, ("new",)) for name in "arxyszt"])
        page.resize(21, 10)
        self.assertEqual(page.laid(), [("a", ("wide",))])
        page.resize(21, 10)
        self.assertEqual(page.laid(), [])


class AsItWas(Leaning):
    def test_what_is_handed_in_is_not_kept_but_as_it_was(self):
        rules = list(RULES)
        page = Page(inn(), rules, 20, 10)
        self.assertEqual(rules, list(RULES))
        rules.append((9, (), (("pad", 9),)))
        self.whole(page, inn(), RULES, 20, 10)
        rules = [(9, (), (("pad", 1),))]
        page.reset(rules)
        rules[0] = (9, (), (("pad", 2),))
        self.whole(page, inn(), [(9, (), (("pad", 1),))], 20, 10)
        page.resize(21, 10)
        self.assertEqual(page.laid(), [])

    def test_what_is_told_is_the_askers_own(self):
        page = Page(inn(), RULES + ((1, (("name", "y"),), (WIDE,)), (2, (("kind", "row"),), (WIDE, HIGH))), 20, 10)
        asks = [page.shapes, page.layout, page.papers, page.laid]
        ahead = [copy.deepcopy(ask()) for ask in asks]
        shapes, layout, papers, laid = [ask() for ask in asks]
        shapes["a"]["pad"] = 9
        shapes["x"].clear()
        shapes.pop("r")
        layout["a"] = None
        layout.pop("x")
        papers["a"][3][0].append("q")
        papers["a"][5][0][0] += 1
        papers["r"][4][0][0][1] += 1
        papers.pop("x")
        laid.append("q")
        self.assertEqual([ask() for ask in asks], ahead)
        page.resize(20, 11)
        page.resize(20, 10)
        self.assertEqual([ask() for ask in asks[:3]], ahead[:3])

    def test_what_was_told_stays(self):
        page = Page(inn(), RULES, 20, 10)
        told = [page.shapes(), page.layout(), page.papers(), page.laid()]
        ahead = copy.deepcopy(told)
        page.become(without(inn(), "r"))
        page.reset([(1, (), (("pad", 3),))])
        page.resize(5, 5)
        self.assertEqual(told, ahead)

    def test_two_pages_are_apart(self):
        one, other = Page(inn(), RULES, 20, 10), Page(inn(), RULES, 20, 10)
        one.resize(5, 5)
        one.become(without(inn(), "r"))
        self.whole(other, inn(), RULES, 20, 10)
