import string
import unittest

from samples import STRANGE, blank, chain, crowd, house, row, words
from panehouse.boxes import box_of, boxes_of, names_of, need_document, parent_of, way_to
from panehouse.errors import NoBox, NoName

ORDER = ["a", "b", "c", "d", "e", "f", "g", "h", "i", "j"]
ABOUT = {"a": None, "b": "a", "c": "b", "d": "c", "e": "c", "f": "b", "g": "a", "h": "g", "i": "h", "j": "a"}
WITH_KIDS = ["row", "flow", "column", "grid", "pile"]


def more_of(kind):
    return {"words": "", "grid": 2}.get(kind)


class Documents(unittest.TestCase):
    def let_by(self, thing):
        self.assertIsNone(need_document(thing))

    def refuse(self, thing):
        with self.assertRaises(NoBox) as caught:
            need_document(thing)
        self.assertIs(type(caught.exception), NoBox)

    def refuse_within(self, thing):
        """Refused as the root, and as a kid too."""
        self.refuse(thing)
        self.refuse(row("root", thing))
        self.refuse(row("root", blank("other"), row("inner", thing)))

    def test_all_kinds(self):
        self.let_by(house())
        for kind in ["blank", "words"] + WITH_KIDS:
            with self.subTest(kind):
                self.let_by((kind, "a", (), more_of(kind), ()))

    def test_other_kinds(self):
        for kind in STRANGE + ["Row", "rows", "ro", " row", "box", 3, ("row",), ["row"]]:
            for more in [None, "", 2]:
                with self.subTest((repr(kind), more)):
                    self.refuse_within((kind, "a", (), more, ()))

    def test_things_of_another_form(self):
        good = blank("a")
        for thing in STRANGE + [0, 5, (), [], list(good), good[:4], good + ((),), "blank", (good,), [good], "abcde",
                                {"kind": "blank"}, dict(enumerate(good))]:
            with self.subTest(repr(thing)):
                self.refuse_within(thing)

    def test_names(self):
        for name in list(string.ascii_lowercase) + ["a1", "abcdefgh", "z9999999"]:
            self.let_by(blank(name))
        for name in STRANGE + ["abcdefghi", "1", "1a", "A", "aB", "a_b", "a-b", "a ", "a\n", "\u00e9", 7, ("a",)]:
            with self.subTest(repr(name)):
                self.refuse_within(blank(name))

    def test_tags(self):
        for tags in [(), ("a",), ("a", "b", "c", "d"), ("abcdefgh", "x1"), ("me",)]:
            self.let_by(blank("me", tags))
        wrong = [("a", "b", "c", "d", "e"), ("a", "a"), ("a", "b", "a"), ["a"], [], "a", "", None, {}, {"a": 1},
                 ("",), ("A",), ("abcdefghi",), ("1",), (["a"],), (("a",),), 0, False]
        for tags in wrong + [(thing,) for thing in STRANGE]:
            with self.subTest(repr(tags)):
                self.refuse_within(blank("me", tags))

    def test_more_of_others_is_none(self):
        for kind in ["blank", "row", "flow", "column", "pile"]:
            for more in [thing for thing in STRANGE if thing is not None] + [0, 1, (), []]:
                with self.subTest((kind, repr(more))):
                    self.refuse_within((kind, "a", (), more, ()))

    def test_columns(self):
        for columns in range(1, 10):
            self.let_by(("grid", "a", (), columns, ()))
        for columns in STRANGE + [0, 10, 99, (1,), [1]]:
            with self.subTest(repr(columns)):
                self.refuse_within(("grid", "a", (), columns, ()))

    def test_texts(self):
        full = " ".join(["a" * 20, "b" * 20, "c" * 20, "d" * 17])
        self.assertEqual(len(full), 80)
        for text in ["", "a", "Z", "0", "Some words 2 read", "x" * 20, full,
                     string.ascii_uppercase[:20] + " " + string.ascii_uppercase[20:],
                     string.ascii_lowercase[:20] + " " + string.ascii_lowercase[20:], string.digits]:
            with self.subTest(text):
                self.let_by(words("a", text))

    def test_texts_that_are_none(self):
        long = " ".join(["a" * 20, "b" * 20, "c" * 20, "d" * 18])
        self.assertEqual(len(long), 81)
        wrong = [long, "x" * 21, "a " + "x" * 21, " ", " a", "a ", "a  b", "a\tb", "a\nb", "a\n", "a.", "a-b", "a:b",
                 "a_b", "\u00e9", "\u0663", "\u00b2", "a\u00a0b", ("a",), ["a"], 5, True, None, b"a", {}, object()]
        for text in wrong:
            with self.subTest(repr(text)):
                self.refuse_within(words("a", text))

    def test_kids(self):
        for kind in WITH_KIDS:
            for many in [0, 1, 12]:
                kids = tuple([blank(f"k{at}") for at in range(many)])
                self.let_by((kind, "a", (), more_of(kind), kids))
            kids = tuple([blank(f"k{at}") for at in range(13)])
            self.refuse_within((kind, "a", (), more_of(kind), kids))
            for wrong in [None, [], [blank("k")], {}, "", 0, False, blank("k"), (None,), ((),), ([],), ("k",)]:
                with self.subTest((kind, repr(wrong))):
                    self.refuse_within((kind, "a", (), more_of(kind), wrong))

    def test_no_kids_of_blank_and_words(self):
        for kind in ["blank", "words"]:
            for kids in [(blank("k"),), [], None, "", {}, 0]:
                with self.subTest((kind, repr(kids))):
                    self.refuse_within((kind, "a", (), more_of(kind), kids))

    def test_at_most_40_boxes(self):
        for many in [1, 2, 39, 40]:
            self.assertEqual(len(boxes_of(crowd(many))), many)
            self.let_by(crowd(many))
        for many in [41, 42, 100]:
            self.refuse(crowd(many))

    def test_at_most_8_deep(self):
        for deep in [1, 2, 7, 8]:
            self.let_by(chain(deep))
        for deep in [9, 10, 30]:
            self.refuse(chain(deep))
        self.let_by(row("root", blank("side"), chain(7)))
        self.refuse(row("root", blank("side"), chain(8)))

    def test_unlike_names(self):
        self.refuse(row("a", blank("a")))
        self.refuse(row("a", blank("b"), blank("b")))
        self.refuse(row("a", row("b", blank("c")), row("d", blank("c"))))
        self.refuse(row("a", row("b", row("c", words("a", "x")))))
        self.let_by(row("a", blank("b", ("a", "b")), blank("c", ("a", "b"))))

    def test_endless_things_are_refused_soon(self):
        self.refuse(chain(100000))
        doc = blank("a")
        for at in range(60):
            doc = ("row", f"r{at}", (), None, (doc,) * 12)
        self.refuse(doc)
        kids = []
        loop = ("row", "a", (), None, kids)
        kids.append(loop)
        self.refuse(loop)


class LookedUp(unittest.TestCase):
    def test_order(self):
        self.assertEqual(names_of(house()), ORDER)
        self.assertEqual([box[1] for box in boxes_of(house())], ORDER)
        self.assertEqual(names_of(blank("a")), ["a"])
        self.assertEqual(names_of(chain(8)), [f"n{at}" for at in range(1, 9)])

    def test_order_goes_through_a_kid_ahead_of_the_one_behind(self):
        doc = row("z", row("y", blank("b"), blank("a")), blank("x"), row("w", blank("c")))
        self.assertEqual(names_of(doc), ["z", "y", "b", "a", "x", "w", "c"])

    def test_boxes_are_whole(self):
        doc = house()
        boxes = boxes_of(doc)
        self.assertIs(type(boxes), list)
        self.assertEqual(boxes[0], doc)
        self.assertEqual(boxes[1], doc[4][0])
        self.assertEqual(boxes[3], words("d", "Some words here", ("big", "red")))
        self.assertEqual(boxes[-1], words("j", ""))

    def test_40_boxes(self):
        doc = crowd(40)
        self.assertEqual(len(names_of(doc)), 40)
        self.assertEqual(len(set(names_of(doc))), 40)
        for box in boxes_of(doc):
            self.assertEqual(box_of(doc, box[1]), box)

    def test_box_of(self):
        doc = house()
        for name, box in zip(ORDER, boxes_of(doc)):
            self.assertEqual(box_of(doc, name), box)
            self.assertEqual(box_of(doc, name)[1], name)

    def test_parent_of(self):
        for name in ORDER:
            self.assertEqual(parent_of(house(), name), ABOUT[name])
        self.assertIsNone(parent_of(blank("a"), "a"))

    def test_way_to(self):
        doc = house()
        self.assertEqual(way_to(doc, "a"), [doc])
        self.assertEqual([box[1] for box in way_to(doc, "d")], ["a", "b", "c", "d"])
        for name in ORDER:
            way = way_to(doc, name)
            self.assertIs(type(way), list)
            self.assertEqual(way[0], doc)
            self.assertEqual(way[-1], box_of(doc, name))
            for above, below in zip(way, way[1:]):
                self.assertIn(below, above[4])
        self.assertEqual(way_to(chain(8), "n8"), boxes_of(chain(8)))

    def test_no_such_name(self):
        wrong = STRANGE + ["k", "A", "aa", "big", "left", "row", "abcdefghi", 0, 5, ["a"], ("a",), house(), blank("a")]
        for deed in [box_of, way_to, parent_of]:
            for doc in [house(), blank("zz")]:
                for name in wrong:
                    with self.subTest((deed.__name__, repr(name))):
                        with self.assertRaises(NoName) as caught:
                            deed(doc, name)
                        self.assertIs(type(caught.exception), NoName)

    def test_somewhat_beyond_the_bounds_nothing_is_refused(self):
        doc = row("root", crowd(50), chain(20), blank("averylongname"))
        self.assertEqual(len(boxes_of(doc)), 72)
        self.assertEqual(parent_of(doc, "n20"), "n19")
        self.assertEqual(len(way_to(doc, "n20")), 21)
        self.assertEqual(box_of(doc, "averylongname"), blank("averylongname"))


class AsItWas(unittest.TestCase):
    def test_what_is_handed_in_stays(self):
        doc = house()
        need_document(doc)
        boxes_of(doc)
        names_of(doc)
        for deed in [box_of, way_to, parent_of]:
            deed(doc, "d")
            self.assertRaises(NoName, deed, doc, "k")
        self.assertEqual(doc, house())

    def test_what_is_refused_stays(self):
        kids = [blank("b")]
        tags = ["x", "y"]
        for doc in [("row", "a", (), None, kids), ("row", "a", tags, None, ()), row("a", ("row", "b", (), None, kids))]:
            self.assertRaises(NoBox, need_document, doc)
        self.assertEqual(kids, [blank("b")])
        self.assertEqual(tags, ["x", "y"])

    def test_what_is_told_is_the_askers_own(self):
        doc = house()
        for deed in [boxes_of, names_of, lambda doc: way_to(doc, "d"), lambda doc: way_to(doc, "a")]:
            told = deed(doc)
            ahead = list(told)
            told.reverse()
            told.append(None)
            told[0] = 5
            self.assertEqual(deed(doc), ahead)
        self.assertEqual(doc, house())
