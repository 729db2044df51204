from retold import ways_by_hand
from samples import Refusing, blank, box, drawn_document, house, no_documents, row, words
from panehouse.edits import with_kid, with_tags, with_text, without
from panehouse.errors import NoBox
from panehouse.telling import change_between


def by_hand(one, other):
    """The change told another way: from the boxes' tuples, entry by entry."""
    had = {way[-1][1]: way[-1] for way in ways_by_hand(one)}
    has = {way[-1][1]: way[-1] for way in ways_by_hand(other)}
    same = {(name, thing[0]) for name, thing in had.items()} & {(name, thing[0]) for name, thing in has.items()}
    kept = {name for name, kind in same}
    names = {name: tuple(kid[1] for kid in thing[4]) for name, thing in has.items()}
    before = {name: tuple(kid[1] for kid in had[name][4]) if name in kept else () for name in has}
    change = [("gone", name) for name in had if name not in kept]
    change += [("new", name, thing[0]) + thing[2:4] for name, thing in has.items() if name not in kept]
    change += [("set", name) + thing[2:4] for name, thing in has.items()
               if name in kept and thing[2:4] != had[name][2:4]]
    change += [("kids", name, names[name]) for name in has if names[name] != before[name]]
    return change + [("root", other[1])] * (one[1] != other[1])


class Told(Refusing):
    def check(self, one, other, expected):
        self.assertEqual(change_between(one, other), expected)
        self.assertEqual(by_hand(one, other), expected)

    def test_the_same(self):
        for doc in [blank("a"), house(), drawn_document(3)]:
            self.check(doc, doc, [])

    def test_another_text_or_tags_or_columns(self):
        self.check(house(), with_text(house(), "d", "Other words"), [("set", "d", ("big", "red"), "Other words")])
        self.check(house(), with_text(house(), "d", ""), [("set", "d", ("big", "red"), "")])
        self.check(house(), with_tags(house(), "b", ()), [("set", "b", (), None)])
        self.check(house(), with_tags(house(), "d", ("red", "big")), [("set", "d", ("red", "big"), "Some words here")])
        self.check(box("grid", "a", more=2), box("grid", "a", more=3), [("set", "a", (), 3)])

    def test_a_box_more(self):
        self.check(house(), with_kid(house(), "a", blank("k", ("t",)), 1),
                   [("new", "k", "blank", ("t",), None), ("kids", "a", ("b", "k", "g", "j"))])
        self.check(blank("a"), blank("a"), [])
        self.check(row("a"), row("a", box("grid", "b", words("c", "x y"), more=4)),
                   [("new", "b", "grid", (), 4), ("new", "c", "words", (), "x y"), ("kids", "a", ("b",)),
                    ("kids", "b", ("c",))])

    def test_a_box_gone(self):
        self.check(house(), without(house(), "b"), [("gone", name) for name in "bcdef"] + [("kids", "a", ("g", "j"))])
        self.check(house(), without(house(), "i"), [("gone", "i"), ("kids", "h", ())])

    def test_a_box_of_the_same_name_and_another_kind(self):
        self.check(row("a", blank("b")), row("a", words("b", "x")),
                   [("gone", "b"), ("new", "b", "words", (), "x")])
        self.check(row("a", blank("b")), box("column", "a", blank("b")),
                   [("gone", "a"), ("new", "a", "column", (), None), ("kids", "a", ("b",))])
        self.check(row("a", row("b", blank("c"))), row("a", box("pile", "b")),
                   [("gone", "b"), ("gone", "c"), ("new", "b", "pile", (), None)])

    def test_kids_in_another_order(self):
        self.check(row("a", blank("b"), blank("c")), row("a", blank("c"), blank("b")), [("kids", "a", ("c", "b"))])

    def test_a_box_elsewhere(self):
        self.check(row("a", row("b", blank("c")), row("d")), row("a", row("b"), row("d", blank("c"))),
                   [("kids", "b", ()), ("kids", "d", ("c",))])

    def test_another_root(self):
        self.check(row("a", row("b")), row("b", row("a")), [("kids", "b", ("a",)), ("kids", "a", ()), ("root", "b")])
        self.check(row("a", blank("b")), blank("b"), [("gone", "a"), ("root", "b")])
        self.check(blank("b"), row("a", blank("b")), [("new", "a", "row", (), None), ("kids", "a", ("b",)),
                                                      ("root", "a")])
        self.check(blank("a"), blank("b"), [("gone", "a"), ("new", "b", "blank", (), None), ("root", "b")])

    def test_gone_in_the_ones_order_all_else_in_the_others(self):
        one = row("a", row("b", words("c", "x")), words("d", "y"), blank("e"))
        other = row("a", row("f", words("d", "z")), row("b", words("g", "q"), words("c", "z")))
        self.check(one, other, [("gone", "e"), ("new", "f", "row", (), None), ("new", "g", "words", (), "q"),
                                ("set", "d", (), "z"), ("set", "c", (), "z"), ("kids", "a", ("f", "b")),
                                ("kids", "f", ("d",)), ("kids", "b", ("g", "c"))])

    def test_kinds(self):
        change = change_between(house(), row("a", blank("z", ("t",))))
        self.assertIs(type(change), list)
        self.assertEqual({type(entry) for entry in change}, {tuple})
        self.assertIn(("kids", "a", ("z",)), change)
        self.assertIs(type(change[-1][2]), tuple)

    def test_drawn_ones(self):
        for seed in range(200):
            one, other = drawn_document(seed), drawn_document(seed * 7 + 1)
            self.assertEqual(repr(change_between(one, other)), repr(by_hand(one, other)))

    def test_no_document(self):
        for thing in no_documents():
            with self.subTest(repr(thing)[:80]):
                self.refused_as(NoBox, change_between, thing, house())
                self.refused_as(NoBox, change_between, house(), thing)
                self.refused_as(NoBox, change_between, thing, thing)


class AsItWas(Refusing):
    def test_what_is_told_is_the_askers_own(self):
        one, other = house(), without(house(), "b")
        told = change_between(one, other)
        told.append("q")
        self.assertEqual(change_between(one, other), told[:-1])
        change_between(one, one).append("q")
        self.assertEqual(change_between(one, one), [])
        self.assertEqual((one, other), (house(), without(house(), "b")))
