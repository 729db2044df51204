import copy
import random

from retold import ways_by_hand
from samples import (STRANGE, Odd, Refusing, blank, box, chain, crowd, drawn_document, house, no_documents, row,
                     wide_row, words)
from panehouse.boxes import names_of, need_document
from panehouse.doing import change_back, with_change
from panehouse.edits import with_kid, with_tags, with_text, without
from panehouse.errors import NoBox, NoChange
from panehouse.telling import change_between

DOC = row("a", row("b", words("c", "x y"), blank("d")), box("grid", "e", blank("f"), more=2))
LENGTHS = {"gone": 2, "new": 5, "set": 4, "kids": 3, "root": 2}


def by_hand(doc, change):
    """The change done another way; None where it is refused. Only for lists of entries of the right lengths."""
    had = {way[-1][1]: way[-1] for way in ways_by_hand(doc)}
    told = {word: [entry[1:] for entry in change if entry[0] == word] for word in LENGTHS}
    for word, entries in told.items():
        names = [entry[0] for entry in entries]
        if len(names) != len(set(names)) or (word == "root" and len(names) > 1):
            return None
    gone = {entry[0] for entry in told["gone"]}
    new = {entry[0]: entry for entry in told["new"]}
    if not gone <= set(had) or set(new) & (set(had) - gone):
        return None
    if not {entry[0] for entry in told["set"]} <= set(had) - gone:
        return None
    there = (set(had) - gone) | set(new)
    kids = {name: [kid[1] for kid in had[name][4]] for name in set(had) - gone}
    kids.update({name: [] for name in new})
    kids.update({name: list(names) for name, names in told["kids"]})
    things = {name: (had[name][0],) + had[name][2:4] for name in set(had) - gone}
    things.update({name: entry[1:] for name, entry in new.items()})
    things.update({name: (things[name][0], tags, more) for name, tags, more in told["set"]})
    root = told["root"][0][0] if told["root"] else doc[1]
    if set(kids) != there or root not in there:
        return None
    # Each one stands once where all but the root are named once, and none is left over from the root on.
    if sorted([root] + sum(kids.values(), [])) != sorted(there):
        return None
    reached = [root]
    for name in reached:
        reached += kids[name]
    if len(reached) != len(there):
        return None

    def build(name):
        kind, tags, more = things[name]
        return (kind, name, tags, more, tuple(build(kid) for kid in kids[name]))
    came = build(root)
    try:
        need_document(came)
    except NoBox:
        return None
    return came


class Doing(Refusing):
    def done(self, change, expected, doc=DOC):
        self.assertEqual(with_change(doc, change), expected)
        self.assertEqual(by_hand(doc, change), expected)
        back = change_back(doc, change)
        self.assertEqual(back, change_between(expected, doc))
        self.assertEqual(with_change(expected, back), doc)

    def refuse(self, change, doc=DOC):
        self.refused_as(NoChange, with_change, doc, change)
        self.refused_as(NoChange, change_back, doc, change)


class Done(Doing):
    def test_nothing(self):
        for doc in [DOC, blank("a"), house(), crowd(40), chain(8)]:
            self.done([], doc, doc)

    def test_gone(self):
        self.done([("gone", "d"), ("kids", "b", ("c",))], without(DOC, "d"))
        self.done([("kids", "a", ("e",)), ("gone", "d"), ("gone", "b"), ("gone", "c")], without(DOC, "b"))

    def test_new(self):
        self.done([("new", "z", "words", ("t",), "q"), ("kids", "e", ("f", "z"))],
                  with_kid(DOC, "e", words("z", "q", ("t",))))
        self.done([("new", "z", "row", (), None), ("kids", "a", ("z", "b", "e")), ("new", "y", "blank", (), None),
                   ("kids", "z", ("y",))], with_kid(DOC, "a", row("z", blank("y")), 0))

    def test_set(self):
        self.done([("set", "c", (), "q")], with_text(DOC, "c", "q"))
        self.done([("set", "b", ("t", "u"), None)], with_tags(DOC, "b", ("t", "u")))
        self.done([("set", "e", (), 9)], row("a", DOC[4][0], box("grid", "e", blank("f"), more=9)))

    def test_kids(self):
        self.done([("kids", "b", ("d", "c"))], row("a", row("b", blank("d"), words("c", "x y")), DOC[4][1]))
        self.done([("kids", "b", ()), ("kids", "e", ("f", "c", "d"))],
                  row("a", row("b"), box("grid", "e", blank("f"), words("c", "x y"), blank("d"), more=2)))

    def test_root(self):
        self.done([("root", "b"), ("kids", "b", ("c", "d", "a")), ("kids", "a", ("e",))],
                  row("b", words("c", "x y"), blank("d"), row("a", DOC[4][1])))
        self.done([("root", "a")], DOC)

    def test_what_changes_nothing_is_let_by(self):
        self.done([("set", "c", (), "x y"), ("set", "a", (), None), ("kids", "a", ("b", "e")), ("kids", "c", ()),
                   ("kids", "d", ()), ("root", "a")], DOC)

    def test_what_is_within_a_gone_box_is_kept_by_a_kids_entry(self):
        self.done([("gone", "b"), ("kids", "a", ("c", "e", "d"))], row("a", words("c", "x y"), DOC[4][1], blank("d")))
        self.done([("gone", "a"), ("gone", "e"), ("gone", "f"), ("root", "b")], DOC[4][0])
        self.done([("gone", "a"), ("root", "b"), ("kids", "b", ("c", "e", "d"))],
                  row("b", words("c", "x y"), DOC[4][1], blank("d")))

    def test_a_gone_box_and_a_new_one_of_its_name(self):
        self.done([("gone", "f"), ("new", "f", "words", (), "q")],
                  row("a", DOC[4][0], box("grid", "e", words("f", "q"), more=2)))
        self.done([("gone", "a"), ("new", "a", "column", (), None), ("kids", "a", ("b", "e"))],
                  box("column", "a", *DOC[4]))
        # The new one comes without kids, also where the one gone had some.
        self.done([("gone", "b"), ("gone", "c"), ("gone", "d"), ("new", "b", "row", (), None)],
                  row("a", row("b"), DOC[4][1]))
        self.done([("new", "f", "blank", (), None), ("gone", "f")], DOC)

    def test_in_any_order(self):
        change = [("gone", "d"), ("gone", "f"), ("new", "f", "row", (), None), ("new", "z", "blank", (), None),
                  ("set", "c", ("t",), "q"), ("kids", "b", ("c",)), ("kids", "f", ("z",)), ("root", "a")]
        chance = random.Random(2)
        for many in range(30):
            chance.shuffle(change)
            self.done(list(change), row("a", row("b", words("c", "q", ("t",))),
                                        box("grid", "e", row("f", blank("z")), more=2)))

    def test_bounds(self):
        self.done([("new", "z", "blank", (), None), ("kids", "root", ("g0", "g1", "g2", "z"))],
                  with_kid(crowd(39), "root", blank("z")), crowd(39))
        names = tuple(f"k{at}" for at in range(11))
        self.done([("new", "z", "blank", (), None), ("kids", "a", names + ("z",))],
                  with_kid(wide_row("a", 11), "a", blank("z")), wide_row("a", 11))


class Refused(Doing):
    def test_no_document(self):
        for thing in no_documents():
            for change in [[], None, [("gone", "q")]]:
                with self.subTest((repr(thing)[:80], change)):
                    self.refused_as(NoBox, with_change, thing, change)
                    self.refused_as(NoBox, change_back, thing, change)

    def test_no_list(self):
        for thing in STRANGE + [(), (("root", "a"),), {"root": "a"}, 0, "gone", ("gone", "d"), iter([])]:
            with self.subTest(repr(thing)):
                self.refuse(thing)

    def test_no_entries(self):
        entries = [(), ("gone",), ("gone", "d", "d"), ["root", "a"], ("root",), ("root", "a", "a"), ("new", "z"),
                   ("new", "z", "blank", ()), ("new", "z", "blank", (), None, ()), ("set", "c", ()), ("set", "c"),
                   ("set", "c", (), "q", ()), ("kids", "b"), ("kids", "b", ("c", "d"), ()), ("Root", "a"),
                   ("move", "a"), ("", "a"), "root", "ab", (None, "a"), (Odd(), "a"), (["root"], "a"), (("root",), "a"),
                   ("roots", "a")]
        for entry in entries + STRANGE:
            with self.subTest(repr(entry)):
                self.refuse([entry])
                self.refuse([("root", "a"), entry])
                self.refuse([entry, ("set", "c", (), "q")])

    def test_no_names(self):
        for thing in STRANGE + ["A", "a ", "abcdefghi", 0, ("a",), ["a"], ("a", "b")]:
            with self.subTest(repr(thing)):
                for entry in [("gone", thing), ("new", thing, "blank", (), None), ("set", thing, (), None),
                              ("kids", thing, ()), ("root", thing), ("kids", "b", (thing, "c", "d")),
                              ("kids", "a", ("b", "e", thing))]:
                    self.refuse([entry])

    def test_no_tuple_of_kids(self):
        for thing in STRANGE + [["c", "d"], "cd", {"c": 1, "d": 2}, 0, ("c", ["d"]), (("c", "d"),)]:
            with self.subTest(repr(thing)):
                self.refuse([("kids", "b", thing)])

    def test_more_than_one_root(self):
        self.refuse([("root", "a"), ("root", "a")])
        self.refuse([("root", "b"), ("root", "a")])

    def test_one_name_twice_in_entries_of_one_word(self):
        self.refuse([("set", "c", (), "x y"), ("set", "c", (), "x y")])
        self.refuse([("set", "c", (), "q"), ("set", "c", (), "r")])
        self.refuse([("kids", "a", ("b", "e")), ("kids", "a", ("b", "e"))])
        self.refuse([("kids", "b", ("c",)), ("gone", "d"), ("gone", "d")])
        self.refuse([("new", "z", "blank", (), None), ("new", "z", "blank", (), None), ("kids", "e", ("f", "z"))])

    def test_no_box_there_ahead(self):
        self.refuse([("gone", "z")])
        self.refuse([("set", "z", (), None)])
        self.refuse([("gone", "z"), ("new", "z", "blank", (), None), ("kids", "e", ("f", "z"))])
        self.refuse([("set", "z", (), None), ("new", "z", "blank", (), None), ("kids", "e", ("f", "z"))])

    def test_a_set_of_one_that_is_gone(self):
        self.refuse([("gone", "d"), ("set", "d", (), None), ("kids", "b", ("c",))])
        self.refuse([("gone", "d"), ("set", "d", (), None), ("new", "d", "blank", (), None)])

    def test_kids_or_root_of_none_that_is_there_then(self):
        self.refuse([("kids", "z", ())])
        self.refuse([("root", "z")])
        self.refuse([("gone", "d"), ("kids", "b", ("c",)), ("kids", "d", ())])
        self.refuse([("gone", "a"), ("gone", "e"), ("gone", "f"), ("root", "a")])
        self.refuse([("gone", "a"), ("gone", "e"), ("gone", "f"), ("root", "b"), ("kids", "a", ())])

    def test_a_new_one_that_is_there(self):
        self.refuse([("new", "d", "blank", (), None)])
        self.refuse([("new", "d", "row", (), None), ("kids", "b", ("c", "d"))])

    def test_a_gone_box_that_is_still_named(self):
        self.refuse([("gone", "d")])
        self.refuse([("gone", "d"), ("kids", "b", ("c", "d"))])
        self.refuse([("gone", "a")])
        self.refuse([("gone", "f"), ("new", "z", "blank", (), None), ("kids", "b", ("c", "d", "z"))])

    def test_what_is_within_a_gone_box_stands_nowhere(self):
        self.refuse([("gone", "b"), ("kids", "a", ("e",))])
        self.refuse([("gone", "b"), ("gone", "c"), ("kids", "a", ("e",))])
        self.refuse([("gone", "e"), ("new", "e", "grid", (), 2)])

    def test_a_box_that_stands_twice_or_nowhere(self):
        self.refuse([("kids", "b", ("c", "d", "d"))])
        self.refuse([("kids", "b", ("c", "d", "f"))])
        self.refuse([("kids", "b", ("c",))])
        self.refuse([("new", "z", "blank", (), None)])
        self.refuse([("root", "b")])
        self.refuse([("kids", "b", ("c", "d", "z"))])

    def test_boxes_within_themselves(self):
        self.refuse([("kids", "a", ("b", "e", "a"))])
        self.refuse([("kids", "b", ("c", "d", "a"))])
        self.refuse([("kids", "b", ("c", "d", "b"))])
        self.refuse([("kids", "a", ("e",)), ("kids", "b", ("c", "d", "b"))])
        self.refuse([("new", "y", "row", (), None), ("new", "z", "row", (), None), ("kids", "y", ("z",)),
                     ("kids", "z", ("y",))])

    def test_what_comes_is_no_document(self):
        for change in [[("set", "c", (), None)], [("set", "c", (), "a" * 21)], [("set", "c", ("t", "t"), "x y")],
                       [("set", "c", ["t"], "x y")], [("set", "e", (), 0)], [("set", "e", (), True)],
                       [("set", "b", (), "x")], [("kids", "c", ("d",)), ("kids", "b", ("c",))],
                       [("kids", "d", ("c",)), ("kids", "b", ("d",))],
                       [("new", "z", "box", (), None), ("kids", "e", ("f", "z"))],
                       [("new", "z", Odd(), (), None), ("kids", "e", ("f", "z"))],
                       [("new", "z", "words", (), None), ("kids", "e", ("f", "z"))],
                       [("new", "z", "blank", None, None), ("kids", "e", ("f", "z"))]]:
            with self.subTest(repr(change)):
                self.refuse(change)

    def test_bounds(self):
        self.refuse([("new", "z", "blank", (), None), ("kids", "root", ("g0", "g1", "g2", "z"))], crowd(40))
        names = tuple(f"k{at}" for at in range(12))
        self.refuse([("new", "z", "blank", (), None), ("kids", "a", names + ("z",))], wide_row("a", 12))
        deep = chain(8)
        self.refuse([("gone", "n8"), ("new", "n8", "row", (), None), ("new", "z", "blank", (), None),
                     ("kids", "n8", ("z",))], deep)

    def test_many_new_ones_in_a_long_chain(self):
        change = [("new", f"z{at}", "row", (), None) for at in range(3000)]
        change += [("kids", f"z{at}", (f"z{at + 1}",)) for at in range(2999)] + [("kids", "d", ("z0",))]
        self.refuse(change)
        self.refuse(change[:-1] + [("kids", "e", ("f", "z0"))])


class Together(Doing):
    def pairs(self):
        for seed in range(150):
            one = drawn_document(seed)
            yield one, drawn_document(seed * 7 + 1)
            name = names_of(one)[-1]
            if len(names_of(one)) > 1:
                yield one, without(one, name)
                yield one, with_tags(one, name, ("q",))

    def test_told_and_done(self):
        for one, other in self.pairs():
            self.done(change_between(one, other), other, one)

    def test_none_could_be_left_out(self):
        for one, other in self.pairs():
            change = change_between(one, other)
            for at in range(len(change)):
                left = change[:at] + change[at + 1:]
                try:
                    came = with_change(one, left)
                except NoChange:
                    came = None
                self.assertNotEqual(came, other)

    def test_spoilt_changes(self):
        done = 0
        chance = random.Random(6)
        entries = [("gone", "d"), ("gone", "f"), ("gone", "b"), ("new", "d", "blank", (), None), ("root", "b"),
                   ("new", "z", "row", (), None), ("new", "f", "words", (), "q"), ("set", "c", ("t",), "q"),
                   ("set", "e", (), 3), ("kids", "b", ("c",)), ("kids", "b", ("d", "c")), ("kids", "a", ("b", "e")),
                   ("kids", "a", ("b", "z", "e")), ("kids", "a", ("c", "e", "d")), ("kids", "z", ("d",)),
                   ("kids", "e", ()), ("kids", "e", ("f", "z")), ("kids", "f", ()), ("root", "a"), ("gone", "z")]
        for many in range(20000):
            change = [chance.choice(entries) for entry in range(chance.choice([1, 2, 2, 3, 3, 4, 5]))]
            expected = by_hand(DOC, change)
            if expected is None:
                self.refused_as(NoChange, with_change, DOC, change)
            else:
                self.assertEqual(with_change(DOC, change), expected)
                done += 1
        self.assertGreater(done, 500)


class AsItWas(Doing):
    def test_what_is_handed_in_stays(self):
        change = [("gone", "d"), ("kids", "b", ("c",)), ("set", "c", ("t",), "q")]
        ahead = copy.deepcopy((DOC, change))
        with_change(DOC, change)
        told = change_back(DOC, change)
        told.append("q")
        self.assertEqual((DOC, change), ahead)
        self.assertEqual(change_back(DOC, change), told[:-1])

    def test_what_is_refused_stays(self):
        tags = ["t"]
        change = [("gone", "d"), ("set", "c", tags, "q")]
        self.refuse(change)
        self.assertEqual(change, [("gone", "d"), ("set", "c", ["t"], "q")])
