import unittest

from samples import blank, chain, crowd, drawn_document, house, wide_row, words
from panehouse import kinds
from panehouse.boxes import box_of, boxes_of
from panehouse.kinds import Blank, Column, Flow, Grid, Kind, Pile, Row, Words, kind_of

CLASSES = {"blank": Blank, "words": Words, "row": Row, "flow": Flow, "column": Column, "grid": Grid, "pile": Pile}
MORE = {"words": "Good day", "grid": 4}


def told(kind):
    """All that a Kind tells, with all within."""
    return (kind.word(), kind.name, kind.tags, kind.more, tuple(told(kid) for kid in kind.kids()))


class Classes(unittest.TestCase):
    def test_each_kind_has_its_class_below_kind(self):
        for word, made in CLASSES.items():
            with self.subTest(word):
                self.assertEqual(made.__bases__, (Kind,))
                self.assertEqual(made.__name__.lower(), word)
                kind = kind_of((word, "a", ("x", "y"), MORE.get(word), ()))
                self.assertIs(type(kind), made)
                self.assertIsInstance(kind, Kind)

    def test_there_are_no_other_classes(self):
        held = [thing for thing in vars(kinds).values() if isinstance(thing, type)]
        self.assertEqual(held, [Kind] + list(CLASSES.values()))

    def test_each_class_is_made_of_a_box(self):
        for word, made in CLASSES.items():
            with self.subTest(word):
                box = (word, "a", ("x",), MORE.get(word), ())
                self.assertEqual(told(made(box)), box)
                self.assertEqual(told(Kind(box)), box)


class Values(unittest.TestCase):
    def test_values_and_word(self):
        kind = kind_of(words("d", "Some words here", ("big", "red")))
        self.assertEqual((kind.name, kind.tags), ("d", ("big", "red")))
        self.assertEqual((kind.more, kind.word()), ("Some words here", "words"))
        kind = kind_of(("grid", "g", (), 9, (blank("a"),)))
        self.assertEqual((kind.name, kind.tags, kind.more, kind.word()), ("g", (), 9, "grid"))
        kind = kind_of(blank("b"))
        self.assertEqual((kind.name, kind.tags, kind.more, kind.word()), ("b", (), None, "blank"))

    def test_words_without_a_text(self):
        self.assertEqual(kind_of(words("a", "")).more, "")

    def test_values_are_set_when_it_is_made(self):
        self.assertLessEqual({"name", "tags", "more"}, set(vars(kind_of(blank("a")))))


class Kids(unittest.TestCase):
    def test_no_kids(self):
        for word in CLASSES:
            self.assertEqual(kind_of((word, "a", (), MORE.get(word), ())).kids(), [])

    def test_kids_are_kinds_in_order(self):
        kids = kind_of(house()).kids()
        self.assertIs(type(kids), list)
        self.assertEqual([type(kid) for kid in kids], [Column, Grid, Words])
        self.assertEqual([kid.name for kid in kids], ["b", "g", "j"])

    def test_12_kids(self):
        kids = kind_of(wide_row("a", 12)).kids()
        self.assertEqual([kid.name for kid in kids], [f"k{at}" for at in range(12)])

    def test_all_that_is_told_is_the_box(self):
        docs = [house(), blank("a"), chain(8), crowd(40)] + [drawn_document(seed) for seed in range(40)]
        for doc in docs:
            for box in boxes_of(doc):
                self.assertEqual(told(kind_of(box)), box)


class AsItWas(unittest.TestCase):
    def test_what_is_handed_in_stays(self):
        doc = house()
        told(kind_of(doc))
        self.assertEqual(doc, house())

    def test_what_is_told_is_the_askers_own(self):
        doc = house()
        kind = kind_of(doc)
        ahead = told(kind)
        kids = kind.kids()
        kids[0].name = "other"
        kids[0].tags = ("other",)
        kids[2].more = "other"
        kids.reverse()
        kids.append(None)
        self.assertEqual(told(kind), ahead)
        self.assertEqual(told(kind_of(doc)), ahead)
        self.assertEqual(box_of(doc, "b")[1], "b")

    def test_two_kinds_of_one_box_are_apart(self):
        box = words("a", "x")
        one = kind_of(box)
        other = kind_of(box)
        one.more = "y"
        self.assertEqual(other.more, "x")
        self.assertEqual(box, words("a", "x"))
