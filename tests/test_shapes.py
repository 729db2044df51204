import copy

from retold import ways_by_hand
from samples import (STRANGE, VALUES, Refusing, blank, chain, crowd, drawn_document, drawn_rules, house, no_documents,
                     no_rules, row, wide_row, words)
from panehouse.boxes import names_of
from panehouse.errors import NoBox, NoName, NoRule
from panehouse.rules import plain_shape
from panehouse.shapes import cause, shapes_of

ORDER = list(VALUES)
NO_NAMES = STRANGE + ["k", "A", "aa", "big", "left", "abcdefghi", 0, ["a"], ("a",)]
NO_WORDS = STRANGE + ["Wide", "width", "k", "wide ", 0, ["wide"], ("wide",), ("hold",), "kind"]


def holds(test, way):
    """The tests told another way."""
    box, about = way[-1], way[:-1]
    place = [kid[1] for kid in about[-1][4]].index(box[1]) + 1 if about else None
    return {"kind": lambda: box[0] == test[1],
            "name": lambda: box[1] == test[1],
            "tag": lambda: box[2].count(test[1]) > 0,
            "first": lambda: place == 1,
            "last": lambda: about != () and place == len(about[-1][4]),
            "nth": lambda: place == test[1],
            "in": lambda: [one[0] for one in about[-1:]] == [test[1]],
            "under": lambda: test[1] in [name for one in about for name in (one[1],) + one[2]]}[test[0]]()


def by_hand(doc, rules):
    """The shapes and causes told another way: property by property, the rule of the greatest pair of rank and place."""
    shapes = {}
    causes = {}
    for way in ways_by_hand(doc):
        name = way[-1][1]
        shapes[name] = {}
        for word in ORDER:
            setting = [(rank, place, dict(sets)[word]) for place, (rank, tests, sets) in enumerate(rules)
                       if word in dict(sets) and all(holds(test, way) for test in tests)]
            if setting:
                best = max(setting, key=lambda entry: entry[:2])
                shapes[name][word], causes[name, word] = best[2], ("rule", best[1])
            elif word in ("gap", "ink") and len(way) > 1:
                shapes[name][word], causes[name, word] = shapes[way[-2][1]][word], ("from", way[-2][1])
            else:
                shapes[name][word], causes[name, word] = plain_shape()[word], ("plain",)
    return shapes, causes


class Shapes(Refusing):
    def check(self, doc, rules):
        shapes, causes = by_hand(doc, rules)
        told = shapes_of(doc, rules)
        # Like values aren't enough: 0 == False for Python; nor are like dicts of another order.
        self.assertEqual(repr(told), repr(shapes))
        self.assertEqual(list(told), names_of(doc))
        for (name, word), expected in causes.items():
            self.assertEqual(repr(cause(doc, rules, name, word)), repr(expected))


class Told(Shapes):
    def test_no_rules(self):
        for doc in [blank("a"), house(), chain(8), crowd(40), wide_row("a", 12)]:
            for rules in [[], ()]:
                self.assertEqual(shapes_of(doc, rules), {name: plain_shape() for name in names_of(doc)})
                self.check(doc, rules)

    def test_the_order_of_names_and_properties(self):
        shapes = shapes_of(house(), [(1, (), (("ink", "great"), ("wide", ("share", 2))))])
        self.assertIs(type(shapes), dict)
        self.assertEqual(list(shapes), list("abcdefghij"))
        for shape in shapes.values():
            self.assertIs(type(shape), dict)
            self.assertEqual(list(shape), ORDER)

    def test_each_property_at_each_of_its_bounds(self):
        for word, values in VALUES.items():
            for value in values:
                shapes = shapes_of(blank("a"), [(1, (), ((word, value),))])
                self.assertEqual(repr(shapes), repr({"a": dict(plain_shape(), **{word: value})}))

    def test_12_sets(self):
        sets = tuple((word, VALUES[word][1]) for word in reversed(ORDER))
        self.assertEqual(shapes_of(blank("a"), [(1, (), sets)]), {"a": dict(sets)})
        self.check(house(), [(1, (), sets)])

    def test_the_greatest_rank(self):
        rules = [(5, (), (("pad", 1),)), (7, (), (("pad", 2),)), (6, (), (("pad", 3),))]
        self.assertEqual(shapes_of(blank("a"), rules)["a"]["pad"], 2)
        self.assertEqual(cause(blank("a"), rules, "a", "pad"), ("rule", 1))

    def test_of_like_ranks_the_last(self):
        rules = [(5, (), (("pad", 1),)), (5, (), (("pad", 2),)), (5, (), (("gap", 3),)), (4, (), (("pad", 4),))]
        self.assertEqual(shapes_of(blank("a"), rules)["a"]["pad"], 2)
        self.assertEqual(cause(blank("a"), rules, "a", "pad"), ("rule", 1))
        rules = [(0, (), (("pad", n % 10),)) for n in range(40)]
        self.assertEqual(shapes_of(blank("a"), rules)["a"]["pad"], 9)
        self.assertEqual(cause(blank("a"), rules, "a", "pad"), ("rule", 39))

    def test_two_rules_alike(self):
        rules = [(5, (), (("pad", 1),)), (5, (), (("pad", 1),))]
        self.assertEqual(cause(blank("a"), rules, "a", "pad"), ("rule", 1))

    def test_ranks_are_numbers(self):
        rules = [(10, (), (("pad", 1),)), (9, (), (("pad", 2),))]
        self.assertEqual(shapes_of(blank("a"), rules)["a"]["pad"], 1)

    def test_only_rules_for_the_box(self):
        rules = [(1, (), (("pad", 1),)), (9, (("kind", "words"),), (("pad", 2), ("able", True))),
                 (9, (("kind", "words"), ("first",)), (("pad", 3),)), (99, (("name", "x"),), (("pad", 9),))]
        shapes = shapes_of(house(), rules)
        self.assertEqual("".join(str(shape["pad"]) for shape in shapes.values()), "1113111112")
        self.assertEqual([name for name in shapes if shapes[name]["able"]], ["d", "j"])
        self.assertEqual(cause(house(), rules, "d", "able"), ("rule", 1))
        self.assertEqual(cause(house(), rules, "e", "able"), ("plain",))

    def test_each_property_by_its_own_rule(self):
        rules = [(9, (), (("pad", 1), ("gap", 2))), (5, (), (("gap", 3), ("fill", "#"))),
                 (1, (), (("fill", "."), ("ink", "small")))]
        shape = shapes_of(blank("a"), rules)["a"]
        self.assertEqual((shape["pad"], shape["gap"], shape["fill"], shape["ink"]), (1, 2, "#", "small"))
        self.assertEqual([cause(blank("a"), rules, "a", word) for word in ["pad", "gap", "fill", "ink", "wide"]],
                         [("rule", 0), ("rule", 0), ("rule", 1), ("rule", 2), ("plain",)])

    def test_a_value_that_is_plain_is_set_too(self):
        rules = [(1, (("name", "a"),), (("gap", 4), ("pad", 3))), (9, (("name", "b"),), (("gap", 0),)),
                 (5, (), (("pad", 0),))]
        doc = row("a", row("b", blank("c")), blank("d"))
        shapes = shapes_of(doc, rules)
        self.assertEqual([(shape["gap"], shape["pad"]) for shape in shapes.values()], [(4, 0), (0, 0), (0, 0), (4, 0)])
        self.assertEqual(cause(doc, rules, "b", "gap"), ("rule", 1))
        self.assertEqual(cause(doc, rules, "a", "pad"), ("rule", 2))


class Down(Shapes):
    def test_through_several_boxes(self):
        rules = [(1, (("name", "n2"),), (("gap", 3), ("ink", "great"))), (1, (("name", "n5"),), (("gap", 7),)),
                 (1, (("name", "n6"),), (("ink", "small"),))]
        shapes = shapes_of(chain(8), rules)
        self.assertEqual([shape["gap"] for shape in shapes.values()], [0, 3, 3, 3, 7, 7, 7, 7])
        inks = ["as", "great", "great", "great", "great", "small", "small", "small"]
        self.assertEqual([shape["ink"] for shape in shapes.values()], inks)
        self.assertEqual(cause(chain(8), rules, "n1", "gap"), ("plain",))
        self.assertEqual(cause(chain(8), rules, "n2", "gap"), ("rule", 0))
        self.assertEqual(cause(chain(8), rules, "n3", "gap"), ("from", "n2"))
        self.assertEqual(cause(chain(8), rules, "n4", "gap"), ("from", "n3"))
        self.assertEqual(cause(chain(8), rules, "n5", "gap"), ("rule", 1))
        self.assertEqual(cause(chain(8), rules, "n8", "ink"), ("from", "n7"))

    def test_also_what_is_plain(self):
        self.assertEqual(cause(chain(8), [], "n1", "ink"), ("plain",))
        self.assertEqual(cause(chain(8), [], "n2", "ink"), ("from", "n1"))
        self.assertEqual(cause(house(), (), "d", "gap"), ("from", "c"))

    def test_not_from_beside_or_below(self):
        rules = [(1, (("name", "b"),), (("gap", 3), ("ink", "great")))]
        shapes = shapes_of(house(), rules)
        self.assertEqual([name for name in shapes if shapes[name]["gap"] == 3], ["b", "c", "d", "e", "f"])
        self.assertEqual([name for name in shapes if shapes[name]["ink"] == "great"], ["b", "c", "d", "e", "f"])

    def test_no_other_property_goes_down(self):
        sets = tuple((word, VALUES[word][1]) for word in ORDER)
        doc = row("a", words("b", "x"))
        rules = [(1, (("name", "a"),), sets)]
        self.assertEqual(shapes_of(doc, rules)["b"], dict(plain_shape(), gap=1, ink="great"))
        for word in ORDER:
            expected = ("from", "a") if word in ("gap", "ink") else ("plain",)
            self.assertEqual(cause(doc, rules, "b", word), expected)


class Drawn(Shapes):
    def test_drawn_documents_and_rules(self):
        for seed in range(60):
            self.check(drawn_document(seed), drawn_rules(seed, seed % 41))

    def test_40_boxes_and_40_rules(self):
        for seed in range(5):
            self.check(crowd(40), drawn_rules(seed, 40))
            self.check(chain(8), tuple(drawn_rules(seed, 40)))
            self.check(house(), drawn_rules(seed, 40))


class Refused(Shapes):
    def test_no_document(self):
        for thing in no_documents():
            for rules in [[], None, [5]]:
                with self.subTest((repr(thing)[:80], rules)):
                    self.refused_as(NoBox, shapes_of, thing, rules)
                    for name, word in [("a", "pad"), ("k", "pad"), ("a", "k"), (None, None)]:
                        self.refused_as(NoBox, cause, thing, rules, name, word)

    def test_no_rules(self):
        for rules in no_rules():
            with self.subTest(repr(rules)[:80]):
                self.refused_as(NoRule, shapes_of, house(), rules)
                for name, word in [("a", "pad"), ("k", "pad"), ("a", "k"), (None, None)]:
                    self.refused_as(NoRule, cause, house(), rules, name, word)

    def test_no_name(self):
        for name in NO_NAMES:
            for word in ["pad", "k", None]:
                with self.subTest((repr(name), word)):
                    self.refused_as(NoName, cause, house(), [], name, word)

    def test_no_property(self):
        for word in NO_WORDS:
            for name in ["a", "d"]:
                with self.subTest((name, repr(word))):
                    self.refused_as(NoRule, cause, house(), drawn_rules(1), name, word)


class AsItWas(Shapes):
    def test_what_is_handed_in_stays(self):
        doc = house()
        rules = drawn_rules(5)
        shapes_of(doc, rules)
        cause(doc, rules, "d", "pad")
        self.assertEqual((doc, rules), (house(), drawn_rules(5)))

    def test_what_is_refused_stays(self):
        rules = [(1, (), [("pad", 1)])]
        self.refused_as(NoRule, shapes_of, house(), rules)
        self.refused_as(NoRule, cause, house(), rules, "a", "pad")
        self.assertEqual(rules, [(1, (), [("pad", 1)])])

    def test_what_is_told_is_the_askers_own(self):
        doc = house()
        for rules in [[], drawn_rules(5)]:
            told = shapes_of(doc, rules)
            ahead = copy.deepcopy(told)
            told["a"]["gap"] = 8
            told["b"].clear()
            told.pop("c")
            told["new"] = {}
            self.assertEqual(shapes_of(doc, rules), ahead)
            self.assertEqual(list(plain_shape()), ORDER)
            self.assertEqual(plain_shape()["gap"], 0)

    def test_shapes_are_apart(self):
        told = shapes_of(house(), [])
        told["a"]["pad"] = 5
        self.assertEqual([shape["pad"] for shape in told.values()], [5, 0, 0, 0, 0, 0, 0, 0, 0, 0])

    def test_rules_changed_later_change_nothing(self):
        rules = [(1, (), (("pad", 1),))]
        told = shapes_of(blank("a"), rules)
        rules.append((2, (), (("pad", 2),)))
        self.assertEqual(told["a"]["pad"], 1)
        self.assertEqual(shapes_of(blank("a"), rules)["a"]["pad"], 2)
