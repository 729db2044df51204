import inspect
import random

from samples import (STRANGE, Refusing, blank, chain, crowd, drawn_document, house, no_documents, row, text_of_80,
                     wide_row, words)
from panehouse.boxes import box_of, boxes_of, names_of, need_document, parent_of
from panehouse.edits import with_kid, with_tags, with_text, without
from panehouse.errors import NoBox, NoName, NoPlace

NO_NAMES = STRANGE + ["k", "A", "aa", "big", "left", "row", "abcdefghi", 0, 5, ["a"], ("a",), blank("a")]
NO_PLACES = [thing for thing in STRANGE if thing is not None] + [-5, 1.0, "0", (0,), [0], 10 ** 30]
NO_BOXES = no_documents() + [blank("a"), words("j", "x"), row("new", blank("d"))]
NO_TAGS = [("a", "b", "c", "d", "e"), ("x", "x"), ["x"], [], "x", "", None, {}, ("X",), ("",), ("abcdefghi",), ("1",),
           (True,), (None,), (["x"],), 0, False, ("x", 1)]
NO_TEXTS = ["x" * 21, text_of_80() + "d", "a  b", " a", "a ", " ", "a.", "a\n", "\u00e9", None, True, False, 0, 5, b"a",
            ("a",), ["a"], {}, object()]


def changed(box, name, deed):
    """The document told another way: a copy of all boxes, with deed done to the one of that name."""
    kids = [changed(kid, name, deed) for kid in box[4]]
    box = box[:4] + (tuple(kid for kid in kids if kid is not None),)
    return deed(box) if box[1] == name else box


class Edits(Refusing):
    def check(self, doc, expected):
        need_document(doc)
        self.assertEqual(doc, expected)

    def refused_first(self, deed, *handed):
        """NoBox of no document, then NoName of no name, whatever else is handed in."""
        for thing in no_documents():
            for name in ["a", "k", None]:
                with self.subTest((repr(thing)[:80], name)):
                    self.refused_as(NoBox, deed, thing, name, *handed)
        for name in NO_NAMES:
            with self.subTest(repr(name)):
                self.refused_as(NoName, deed, house(), name, *handed)
                self.refused_as(NoName, deed, blank("zz"), name, *handed)


class WithText(Edits):
    def test_another_text(self):
        self.check(with_text(words("a", "x"), "a", "Good day"), words("a", "Good day"))
        self.check(with_text(words("a", "x", ("big",)), "a", ""), words("a", "", ("big",)))
        self.check(with_text(words("a", ""), "a", text_of_80()), words("a", text_of_80()))
        self.check(with_text(words("a", "x"), "a", "x"), words("a", "x"))
        doc = with_text(house(), "d", "New text")
        self.check(doc, changed(house(), "d", lambda box: words("d", "New text", ("big", "red"))))

    def test_in_all_words_of_a_document(self):
        for seed in range(40):
            doc = drawn_document(seed)
            for box in boxes_of(doc):
                if box[0] == "words":
                    expected = changed(doc, box[1], lambda one: one[:3] + ("Other",) + one[4:])
                    self.check(with_text(doc, box[1], "Other"), expected)

    def test_no_text(self):
        for text in NO_TEXTS:
            with self.subTest(repr(text)):
                self.refused_as(NoBox, with_text, house(), "d", text)
                self.refused_as(NoBox, with_text, words("a", ""), "a", text)

    def test_of_a_box_that_is_no_words(self):
        for name in ["a", "b", "c", "e", "g", "h"]:
            for text in ["x", "", None, 3, 5] + NO_TEXTS:
                with self.subTest((name, repr(text))):
                    self.refused_as(NoBox, with_text, house(), name, text)

    def test_refused_first(self):
        for text in ["x", None, "x" * 21]:
            self.refused_first(with_text, text)


class WithTags(Edits):
    def test_other_tags(self):
        for tags in [(), ("x",), ("x", "y", "z", "abcdefgh"), ("a",), ("left",)]:
            for name in names_of(house()):
                expected = changed(house(), name, lambda box: box[:2] + (tags,) + box[3:])
                self.check(with_tags(house(), name, tags), expected)

    def test_in_all_boxes_of_a_document(self):
        for doc in [chain(8), crowd(40), blank("a")] + [drawn_document(seed) for seed in range(20)]:
            for name in names_of(doc):
                expected = changed(doc, name, lambda box: box[:2] + (("new", "red"),) + box[3:])
                self.check(with_tags(doc, name, ("new", "red")), expected)

    def test_no_tags(self):
        for tags in NO_TAGS:
            for name in ["a", "d", "e"]:
                with self.subTest((name, repr(tags))):
                    self.refused_as(NoBox, with_tags, house(), name, tags)

    def test_refused_first(self):
        for tags in [("x",), None, ["x"]]:
            self.refused_first(with_tags, tags)


class WithKid(Edits):
    def expect(self, doc, name, box, at):
        return changed(doc, name, lambda about: about[:4] + (about[4][:at] + (box,) + about[4][at:],))

    def test_at_each_place(self):
        doc = row("a", blank("b"), blank("c"))
        self.assertEqual(names_of(with_kid(doc, "a", blank("n"), 0)), ["a", "n", "b", "c"])
        self.assertEqual(names_of(with_kid(doc, "a", blank("n"), 1)), ["a", "b", "n", "c"])
        self.assertEqual(names_of(with_kid(doc, "a", blank("n"), 2)), ["a", "b", "c", "n"])

    def test_behind_all_where_no_place_is_told(self):
        doc = row("a", blank("b"), blank("c"))
        self.assertEqual(names_of(with_kid(doc, "a", blank("n"))), ["a", "b", "c", "n"])
        self.assertEqual(names_of(with_kid(doc, "a", blank("n"), None)), ["a", "b", "c", "n"])
        self.assertEqual(names_of(with_kid(row("a"), "a", blank("n"))), ["a", "n"])
        self.assertEqual(names_of(with_kid(row("a"), "a", blank("n"), 0)), ["a", "n"])

    def test_by_the_names_of_the_arguments(self):
        self.assertEqual(str(inspect.signature(with_kid)), "(doc, name, box, place=None)")
        made = with_kid(doc=row("a", blank("b")), name="a", box=blank("n"), place=0)
        self.assertEqual(names_of(made), ["a", "n", "b"])

    def test_with_what_is_within(self):
        kid = row("new", words("n1", "x"), ("grid", "n2", ("x",), 2, (blank("n3"),)))
        made = with_kid(house(), "c", kid, 1)
        self.check(made, self.expect(house(), "c", kid, 1))
        self.assertEqual(names_of(made), ["a", "b", "c", "d", "new", "n1", "n2", "n3", "e", "f", "g", "h", "i", "j"])
        self.assertEqual(parent_of(made, "new"), "c")

    def test_at_drawn_places(self):
        chance = random.Random(7)
        tried = 0
        for seed in range(60):
            doc = drawn_document(seed)
            able = [box for box in boxes_of(doc) if box[0] not in ("blank", "words") and len(box[4]) < 12]
            if not able or len(names_of(doc)) == 40:
                continue
            tried += 1
            box = chance.choice(able)
            at = chance.randint(0, len(box[4]))
            self.check(with_kid(doc, box[1], blank("new"), at), self.expect(doc, box[1], blank("new"), at))
            behind = self.expect(doc, box[1], blank("new"), len(box[4]))
            self.check(with_kid(doc, box[1], blank("new")), behind)
        self.assertGreater(tried, 20)

    def test_up_to_12_kids(self):
        for at in [0, 5, 11]:
            self.check(with_kid(wide_row("a", 11), "a", blank("n"), at),
                       self.expect(wide_row("a", 11), "a", blank("n"), at))
        for at in [0, 5, 12, None]:
            self.refused_as(NoBox, with_kid, wide_row("a", 12), "a", blank("n"), at)

    def test_up_to_40_boxes(self):
        self.assertEqual(len(names_of(with_kid(crowd(39), "root", blank("n")))), 40)
        self.refused_as(NoBox, with_kid, crowd(40), "root", blank("n"))
        self.refused_as(NoBox, with_kid, crowd(39), "root", row("n", blank("m")))
        self.assertEqual(len(names_of(with_kid(row("a", blank("b")), "a", crowd(38)))), 40)
        self.refused_as(NoBox, with_kid, row("a", blank("b")), "a", crowd(39))

    def test_up_to_8_deep(self):
        self.check(with_kid(row("a"), "a", chain(7)), row("a", chain(7)))
        self.refused_as(NoBox, with_kid, row("a"), "a", chain(8))
        doc = with_kid(row("a"), "a", row("b", row("c", row("d", row("e", row("f", row("g")))))))
        self.assertEqual(parent_of(with_kid(doc, "g", blank("h")), "h"), "g")
        self.refused_as(NoBox, with_kid, doc, "g", row("h", blank("i")))

    def test_names_stay_unlike(self):
        for name in names_of(house()):
            self.refused_as(NoBox, with_kid, house(), "a", blank(name))
            self.refused_as(NoBox, with_kid, house(), "h", row("new", blank(name)))

    def test_no_place(self):
        for place in NO_PLACES:
            for name in ["a", "b", "g", "h"]:
                for box in [blank("new"), blank("a"), None]:
                    with self.subTest((repr(place), name)):
                        self.refused_as(NoPlace, with_kid, house(), name, box, place)
        for many in [0, 1, 11, 12]:
            self.refused_as(NoPlace, with_kid, wide_row("a", many), "a", blank("new"), many + 1)
            self.refused_as(NoPlace, with_kid, wide_row("a", many), "a", None, many + 1)

    def test_no_kid_of_blank_and_words(self):
        for name in ["d", "e", "f", "i", "j"]:
            for place in [0, None, 1, True]:
                for box in [blank("new"), blank("a"), None]:
                    with self.subTest((name, place)):
                        self.refused_as(NoPlace, with_kid, house(), name, box, place)

    def test_no_box(self):
        for box in NO_BOXES:
            for place in [0, None]:
                with self.subTest((repr(box)[:80], place)):
                    self.refused_as(NoBox, with_kid, house(), "a", box, place)

    def test_refused_first(self):
        for handed in [(blank("new"),), (blank("new"), 99), (None,), (None, True)]:
            self.refused_first(with_kid, *handed)


class Without(Edits):
    def test_gone(self):
        self.check(without(row("a", blank("b"), blank("c")), "b"), row("a", blank("c")))
        self.check(without(row("a", blank("b")), "b"), row("a"))
        self.assertEqual(names_of(without(house(), "b")), ["a", "g", "h", "i", "j"])
        self.assertEqual(names_of(without(house(), "d")), ["a", "b", "c", "e", "f", "g", "h", "i", "j"])

    def test_each_box_of_a_document(self):
        for doc in [house(), chain(8), crowd(40), wide_row("a", 12)] + [drawn_document(seed) for seed in range(20)]:
            for name in names_of(doc)[1:]:
                made = without(doc, name)
                self.check(made, changed(doc, name, lambda box: None))
                gone = names_of(box_of(doc, name))
                self.assertEqual(names_of(made), [one for one in names_of(doc) if one not in gone])

    def test_put_back(self):
        doc = house()
        self.assertEqual(with_kid(without(doc, "c"), "b", box_of(doc, "c"), 0), doc)
        self.assertEqual(with_kid(without(doc, "j"), "a", box_of(doc, "j")), doc)

    def test_not_the_root(self):
        self.refused_as(NoPlace, without, house(), "a")
        self.refused_as(NoPlace, without, blank("a"), "a")
        self.refused_as(NoPlace, without, chain(8), "n1")

    def test_refused_first(self):
        self.refused_first(without)


class AsItWas(Edits):
    def test_what_is_handed_in_stays(self):
        doc = house()
        kid = row("new", blank("n1"))
        with_text(doc, "d", "New")
        with_tags(doc, "d", ("x",))
        with_kid(doc, "c", kid, 1)
        without(doc, "c")
        self.assertEqual(doc, house())
        self.assertEqual(kid, row("new", blank("n1")))

    def test_what_is_refused_stays(self):
        doc = house()
        tags = ["x"]
        kid = ["row", "new", (), None, ()]
        kids = [blank("n1")]
        self.refused_as(NoBox, with_text, doc, "a", "x")
        self.refused_as(NoBox, with_tags, doc, "a", tags)
        self.refused_as(NoBox, with_kid, doc, "a", kid)
        self.refused_as(NoBox, with_kid, doc, "a", ("row", "new", (), None, kids))
        self.refused_as(NoPlace, with_kid, doc, "a", kid, 9)
        self.refused_as(NoPlace, without, doc, "a")
        self.assertEqual((doc, tags, kid, kids), (house(), ["x"], ["row", "new", (), None, ()], [blank("n1")]))

    def test_asked_again_it_is_told_anew(self):
        for deed in [lambda: with_text(house(), "d", "New"), lambda: with_tags(house(), "d", ("x",)),
                     lambda: with_kid(house(), "c", blank("n"), 1), lambda: without(house(), "c")]:
            ahead = deed()
            boxes_of(ahead).clear()
            self.assertEqual(deed(), ahead)
            self.assertIs(type(ahead), tuple)
