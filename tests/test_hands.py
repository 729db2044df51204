import random

from samples import Refusing, STRANGE, blank, drawn_document, house, no_documents, row
from panehouse.edits import with_tags, with_text, without
from panehouse.errors import NoBox, NoChange, NoUndo
from panehouse.hands import Hands
from panehouse.telling import change_between

TEXT = [("set", "d", ("big", "red"), "Other")]
GONE = [("gone", "j"), ("kids", "a", ("b", "g"))]


class Held(Refusing):
    def check(self, hands, doc, undo, redo):
        self.assertEqual(hands.document(), doc)
        self.assertEqual(hands.many(), (undo, redo))
        self.assertIs(type(hands.many()), tuple)

    def test_at_first(self):
        hands = Hands(house())
        self.check(hands, house(), 0, 0)
        self.refused_as(NoUndo, hands.undo)
        self.refused_as(NoUndo, hands.redo)
        self.check(hands, house(), 0, 0)

    def test_done_and_undone(self):
        hands = Hands(house())
        one, other = with_text(house(), "d", "Other"), without(with_text(house(), "d", "Other"), "j")
        self.assertIsNone(hands.do(TEXT))
        self.check(hands, one, 1, 0)
        hands.do(GONE)
        self.check(hands, other, 2, 0)
        self.refused_as(NoUndo, hands.redo)
        self.assertIsNone(hands.undo())
        self.check(hands, one, 1, 1)
        hands.undo()
        self.check(hands, house(), 0, 2)
        self.refused_as(NoUndo, hands.undo)
        self.check(hands, house(), 0, 2)
        self.assertIsNone(hands.redo())
        self.check(hands, one, 1, 1)
        hands.redo()
        self.check(hands, other, 2, 0)
        self.refused_as(NoUndo, hands.redo)
        self.check(hands, other, 2, 0)

    def test_one_done_ends_what_could_be_done_again(self):
        hands = Hands(house())
        hands.do(TEXT)
        hands.do(GONE)
        hands.undo()
        hands.undo()
        hands.do([("set", "d", (), "New")])
        new = with_tags(with_text(house(), "d", "New"), "d", ())
        self.check(hands, new, 1, 0)
        self.refused_as(NoUndo, hands.redo)
        hands.undo()
        self.check(hands, house(), 0, 1)
        hands.redo()
        self.check(hands, new, 1, 0)

    def test_done_where_nothing_changes(self):
        hands = Hands(house())
        hands.do([])
        self.check(hands, house(), 1, 0)
        hands.do([("root", "a")])
        self.check(hands, house(), 2, 0)
        hands.undo()
        self.check(hands, house(), 1, 1)
        hands.do([])
        self.check(hands, house(), 2, 0)

    def test_refused_changes_nothing(self):
        hands = Hands(house())
        hands.do(TEXT)
        hands.do(GONE)
        hands.undo()
        for change in STRANGE + [(), [("gone", "z")], [("gone", "j")], [("root", "a"), ("root", "a")], ["gone"]]:
            self.refused_as(NoChange, hands.do, change)
            self.check(hands, with_text(house(), "d", "Other"), 1, 1)

    def test_no_document(self):
        for thing in no_documents():
            self.refused_as(NoBox, Hands, thing)

    def test_many(self):
        chance = random.Random(9)
        hands = Hands(blank("a"))
        docs, at = [blank("a")], 0
        for many in range(400):
            deed = chance.choice(["do", "do", "undo", "undo", "redo"])
            if deed == "do":
                new = drawn_document(chance.randrange(60))
                hands.do(change_between(hands.document(), new))
                docs[at + 1:] = [new]
                at += 1
            elif deed == "undo" and at > 0:
                hands.undo()
                at -= 1
            elif deed == "redo" and at + 1 < len(docs):
                hands.redo()
                at += 1
            else:
                self.refused_as(NoUndo, getattr(hands, deed))
            self.check(hands, docs[at], at, len(docs) - 1 - at)

    def test_what_is_handed_in_stays_and_is_not_kept(self):
        change = list(TEXT)
        hands = Hands(house())
        hands.do(change)
        change.append(("root", "z"))
        hands.undo()
        hands.redo()
        self.check(hands, with_text(house(), "d", "Other"), 1, 0)
        self.assertEqual(change[:-1], TEXT)

    def test_two_are_apart(self):
        one, other = Hands(row("a")), Hands(row("a"))
        one.do([])
        self.check(other, row("a"), 0, 0)
