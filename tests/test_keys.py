import random

from samples import STRANGE, Refusing, blank, crowd, drawn_document, house, row, shaped
from panehouse.boxes import names_of
from panehouse.edits import without
from panehouse.errors import NoName
from panehouse.keys import Keys, last_key, next_key, ring_of

NO_NAMES = STRANGE + ["k", "A", "aa", "abcdefghi", 0, ["a"], ("a",)]


def able(doc, names):
    return shaped(doc, **{name: {"able": True} for name in names})


def fellow(names, ring, name, step):
    """The one behind or ahead, told another way: step by step around, till one is able."""
    at = names.index(name)
    for many in names:
        at = (at + step) % len(names)
        if names[at] in ring:
            return names[at]
    return None


class Ring(Refusing):
    def test_in_order(self):
        self.assertEqual(ring_of(house(), able(house(), "")), [])
        self.assertEqual(ring_of(house(), able(house(), "jda")), ["a", "d", "j"])
        self.assertEqual(ring_of(house(), able(house(), "abcdefghij")), list("abcdefghij"))

    def test_behind_and_ahead(self):
        shapes = able(house(), "cfh")
        self.assertEqual([next_key(house(), shapes, name) for name in "abcdefghij"], list("ccfffhhccc"))
        self.assertEqual([last_key(house(), shapes, name) for name in "abcdefghij"], list("hhhcccffhh"))

    def test_nobody(self):
        for name in "abcdefghij":
            self.assertIsNone(next_key(house(), able(house(), ""), name))
            self.assertIsNone(last_key(house(), able(house(), ""), name))

    def test_one_alone(self):
        for alone in "aej":
            for name in "abcdefghij":
                self.assertEqual(next_key(house(), able(house(), alone), name), alone)
                self.assertEqual(last_key(house(), able(house(), alone), name), alone)

    def test_all(self):
        names = names_of(crowd(40))
        shapes = able(crowd(40), names)
        for at, name in enumerate(names):
            self.assertEqual(next_key(crowd(40), shapes, name), names[(at + 1) % 40])
            self.assertEqual(last_key(crowd(40), shapes, name), names[at - 1])

    def test_drawn_ones(self):
        chance = random.Random(3)
        for seed in range(60):
            doc = drawn_document(seed)
            names = names_of(doc)
            ring = [name for name in names if chance.random() < 0.3]
            for name in names:
                self.assertEqual(next_key(doc, able(doc, ring), name), fellow(names, ring, name, 1))
                self.assertEqual(last_key(doc, able(doc, ring), name), fellow(names, ring, name, -1))

    def test_no_name(self):
        for name in NO_NAMES:
            for who in ["", "a", "abcdefghij"]:
                with self.subTest((repr(name), who)):
                    self.refused_as(NoName, next_key, house(), able(house(), who), name)
                    self.refused_as(NoName, last_key, house(), able(house(), who), name)

    def test_what_is_told_is_the_askers_own(self):
        shapes = able(house(), "ad")
        ring_of(house(), shapes).append("q")
        self.assertEqual(ring_of(house(), shapes), ["a", "d"])
        self.assertEqual(shapes, able(house(), "ad"))


class At(Refusing):
    def keys(self, who, at=None):
        keys = Keys(house(), able(house(), who))
        if at is not None:
            keys.to(at)
        return keys

    def walk(self, keys, deed, many):
        told = []
        for step in range(many):
            self.assertIsNone(deed())
            told.append(keys.at())
        return told

    def test_at_none_first(self):
        self.assertIsNone(self.keys("").at())
        self.assertIsNone(self.keys("abc").at())

    def test_from_none(self):
        keys = self.keys("cfh")
        self.assertEqual(self.walk(keys, keys.on, 5), ["c", "f", "h", "c", "f"])
        keys = self.keys("cfh")
        self.assertEqual(self.walk(keys, keys.back, 5), ["h", "f", "c", "h", "f"])

    def test_once_through_all_either_way(self):
        for who in ["a", "aj", "cfh", "abcdefghij"]:
            keys = self.keys(who)
            self.assertEqual(self.walk(keys, keys.on, len(who)), list(who))
            keys = self.keys(who)
            self.assertEqual(self.walk(keys, keys.back, len(who)), list(who)[::-1])

    def test_nobody(self):
        keys = self.keys("")
        self.assertEqual(self.walk(keys, keys.on, 2) + self.walk(keys, keys.back, 2), [None] * 4)

    def test_to(self):
        keys = self.keys("cfh")
        self.assertIsNone(keys.to("f"))
        self.assertEqual(keys.at(), "f")
        keys.on()
        self.assertEqual(keys.at(), "h")
        keys.to("c")
        keys.back()
        self.assertEqual(keys.at(), "h")

    def test_one_alone(self):
        keys = self.keys("e", "e")
        self.assertEqual(self.walk(keys, keys.on, 2) + self.walk(keys, keys.back, 2), ["e"] * 4)

    def test_not_able(self):
        for at in [None, "f"]:
            keys = self.keys("cfh", at)
            for name in NO_NAMES + list("abdegij"):
                with self.subTest((at, repr(name))):
                    self.refused_as(NoName, keys.to, name)
                    self.assertEqual(keys.at(), at)


class Changed(Refusing):
    def told(self, at, doc, who, ahead="abcdefghij"):
        """Where the keys go from a box of the house, to another document of which some are able."""
        keys = Keys(house(), able(house(), ahead))
        if at is not None:
            keys.to(at)
        self.assertIsNone(keys.changed(doc, able(doc, who)))
        return keys.at()

    def test_they_stay(self):
        self.assertEqual(self.told("e", house(), "abcdefghij"), "e")
        self.assertEqual(self.told("e", house(), "e"), "e")
        self.assertEqual(self.told("e", row("z", blank("y"), blank("e")), "zye"), "e")

    def test_at_none_they_stay_there(self):
        self.assertIsNone(self.told(None, house(), "abcdefghij"))
        self.assertIsNone(self.told(None, house(), ""))

    def test_no_longer_able(self):
        self.assertEqual(self.told("e", house(), "abcdfghij"), "f")
        self.assertEqual(self.told("e", house(), "abcdj"), "j")
        self.assertEqual(self.told("e", house(), "abcd"), "d")
        self.assertEqual(self.told("e", house(), "ab"), "b")
        self.assertEqual(self.told("e", house(), "a"), "a")
        self.assertIsNone(self.told("e", house(), ""))
        self.assertEqual(self.told("j", house(), "ac"), "c")
        self.assertEqual(self.told("a", house(), "j"), "j")

    def test_a_box_that_goes(self):
        self.assertEqual(self.told("c", without(house(), "c"), "abfghij"), "f")
        self.assertEqual(self.told("c", without(house(), "c"), "ab"), "b")
        self.assertEqual(self.told("d", without(house(), "b"), "aj"), "j")
        self.assertIsNone(self.told("e", blank("z"), "z"))
        self.assertEqual(self.told("e", row("z", blank("a"), blank("i")), "zai"), "i")

    def test_those_behind_come_also_where_they_were_not_able(self):
        self.assertEqual(self.told("e", house(), "bg", "e"), "g")
        self.assertEqual(self.told("e", house(), "abc", "e"), "c")

    def test_new_ones_are_not_gone_to(self):
        self.assertIsNone(self.told("e", row("z", blank("y")), "zy"))

    def test_the_order_is_that_of_the_document_ahead(self):
        doc = row("z", blank("j"), blank("g"), blank("f"), blank("a"))
        self.assertEqual(self.told("e", doc, "jgfa"), "f")
        self.assertEqual(self.told("h", doc, "gfa"), "g")

    def test_behind_a_change_all_goes_by_the_new_document(self):
        keys = Keys(house(), able(house(), "abcdefghij"))
        keys.to("e")
        doc = row("z", blank("j"), blank("g"), blank("e"))
        keys.changed(doc, able(doc, "zjg"))
        self.assertEqual(keys.at(), "g")
        keys.on()
        self.assertEqual(keys.at(), "z")
        keys.back()
        keys.back()
        self.assertEqual(keys.at(), "j")
        self.refused_as(NoName, keys.to, "a")
        keys.changed(doc, able(doc, "ez"))
        self.assertEqual(keys.at(), "e")

    def test_two_changes(self):
        keys = Keys(house(), able(house(), "e"))
        keys.to("e")
        doc = row("z", row("y", blank("e"), blank("x")), blank("a"))
        keys.changed(doc, able(doc, "ye"))
        keys.back()
        self.assertEqual(keys.at(), "y")
        keys.changed(house(), able(house(), "ab"))
        self.assertEqual(keys.at(), "a")

    def test_from_none_behind_a_change(self):
        keys = Keys(house(), able(house(), "a"))
        keys.to("a")
        keys.changed(house(), able(house(), ""))
        self.assertIsNone(keys.at())
        keys.changed(house(), able(house(), "fc"))
        self.assertIsNone(keys.at())
        keys.back()
        self.assertEqual(keys.at(), "f")

    def test_drawn_ones(self):
        chance = random.Random(4)
        for seed in range(100):
            one, other = drawn_document(seed), drawn_document(chance.randrange(100))
            keys = Keys(one, able(one, names_of(one)))
            at = chance.choice(names_of(one))
            keys.to(at)
            ring = [name for name in names_of(other) if chance.random() < 0.1]
            keys.changed(other, able(other, ring))
            place = names_of(one).index(at)
            order = [at] + names_of(one)[place:] + names_of(one)[:place][::-1]
            self.assertEqual(keys.at(), next((name for name in order if name in ring), None))


class AsItWas(Refusing):
    def test_what_is_handed_in_is_not_kept_but_as_it_was(self):
        shapes = able(house(), "cf")
        keys = Keys(house(), shapes)
        shapes["c"]["able"] = False
        shapes["d"]["able"] = True
        shapes.pop("f")
        keys.on()
        self.assertEqual(keys.at(), "c")
        shapes = able(house(), "cg")
        keys.changed(house(), shapes)
        shapes["d"]["able"] = True
        shapes["g"]["able"] = False
        keys.on()
        self.assertEqual(keys.at(), "g")

    def test_what_is_handed_in_stays(self):
        shapes = able(house(), "cf")
        keys = Keys(house(), shapes)
        keys.on()
        keys.changed(house(), shapes)
        self.assertEqual(shapes, able(house(), "cf"))
