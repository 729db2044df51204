import unittest

from samples import (KINDS, STRANGE, TESTS, VALUES, Refusing, blank, chain, drawn_document, drawn_rules, house,
                     no_rules, row, words)
from panehouse.boxes import names_of, way_to
from panehouse.errors import NoRule
from panehouse.rules import need_rules, plain_shape, test_of

ORDER = ["wide", "high", "leastw", "mostw", "leasth", "mosth", "pad", "gap", "over", "able", "fill", "ink"]
GOOD = (1, (), (("pad", 1),))
NOT_TO_400 = [-1, 401, 10 ** 30, True, False, None, 1.0, "1", "", (1,), [1]]
NOT_TO_9 = [-1, 10, 400, True, False, None, 1.0, "1", "", (1,)]
NO_SIZES = ([(), ("hold", 1), ("hold", None), ("fixed",), ("fixed", 401), ("fixed", -1), ("fixed", True),
             ("fixed", False), ("fixed", None), ("fixed", "1"), ("fixed", 1.0), ("fixed", 1, 1), ("share",),
             ("share", 0), ("share", 100), ("share", -1), ("share", True), ("share", None), ("share", 1, 1),
             "hold", "fixed", "share", ["hold"],
             ["fixed", 1], ["share", 1], 5, 0, ("Hold",), ("hold ",), ("", 1), ("least", 1), (1, "fixed")]
            + [(thing,) for thing in STRANGE] + [(thing, 1) for thing in STRANGE])
NO_VALUES = {"wide": NO_SIZES, "high": NO_SIZES, "leastw": NOT_TO_400, "mostw": NOT_TO_400, "leasth": NOT_TO_400,
             "mosth": NOT_TO_400, "pad": NOT_TO_9, "gap": NOT_TO_9,
             "over": [0, 1, None, "", "yes", "True", 1.0, (), (True,), [True]],
             "able": [0, 1, None, "", "no", "False", 0.0, (), (False,), [False]],
             "fill": [" ", "%", "\x7f", "\x1f", "\n", "ab", "  ", "\u00e9", "none", None, 0, 1, True, False, ("a",),
                      ["a"], b"a"],
             "ink": ["", "a", "As", "as ", "greats", "none", None, 0, True, False, ("as",), ["as"], b"as"]}
# Those of STRANGE that one of the values may be.
STRANGE_VALUES = {"over": [True, False], "able": [True, False], "fill": ["", "1"]}


class Rules(Refusing):
    def let_by(self, thing):
        self.assertIsNone(need_rules(thing))

    def refuse(self, thing):
        self.refused_as(NoRule, need_rules, thing)

    def refuse_rule(self, thing):
        """Refused alone, behind others and ahead of them, in a list and in a tuple."""
        for rules in [[thing], (thing,), [GOOD, thing], [thing, GOOD], (GOOD, GOOD, thing)]:
            self.refuse(rules)

    def refuse_test(self, thing):
        self.refuse_rule((1, (thing,), GOOD[2]))
        self.refuse_rule((1, (("first",), thing), GOOD[2]))

    def refuse_set(self, thing):
        self.refuse_rule((1, (), (thing,)))
        self.refuse_rule((1, (), (("mosth", 3), thing)))


class Need(Rules):
    def test_lists_and_tuples(self):
        self.let_by([])
        self.let_by(())
        self.let_by([GOOD])
        self.let_by((GOOD, GOOD))

    def test_at_most_40(self):
        self.let_by([GOOD] * 40)
        self.let_by((GOOD,) * 40)
        self.refuse([GOOD] * 41)
        self.refuse((GOOD,) * 41)

    def test_drawn_rules(self):
        for seed in range(60):
            self.let_by(drawn_rules(seed))
            self.let_by(tuple(drawn_rules(seed)))

    def test_no_rules(self):
        for thing in no_rules() + [{0: GOOD}, {GOOD}, iter([GOOD]), "rule", GOOD, GOOD[2]]:
            with self.subTest(repr(thing)[:80]):
                self.refuse(thing)

    def test_rules_of_another_form(self):
        for thing in STRANGE + [0, 1, (), [], list(GOOD), GOOD[:2], GOOD + ((),), (GOOD,), [GOOD]]:
            with self.subTest(repr(thing)):
                self.refuse_rule(thing)

    def test_ranks(self):
        for rank in [0, 1, 50, 98, 99]:
            self.let_by([(rank, (), GOOD[2])])
        for rank in STRANGE + [100, -1, 10 ** 30, (1,), [1]]:
            with self.subTest(repr(rank)):
                self.refuse_rule((rank, (), GOOD[2]))


class Tests(Rules):
    def test_each(self):
        for test in TESTS + [("name", "abcdefgh"), ("tag", "z9999999"), ("under", "a")]:
            with self.subTest(test):
                self.let_by([(1, (test,), GOOD[2])])

    def test_how_many(self):
        for many in range(5):
            self.let_by([(1, (("first",), ("kind", "row"), ("nth", 12), ("in", "grid"))[:many], GOOD[2])])
            self.let_by([(1, (("first",),) * many, GOOD[2])])
        self.refuse_rule((1, (("first",),) * 5, GOOD[2]))
        self.refuse_rule((1, (("first",), ("last",), ("nth", 1), ("nth", 2), ("nth", 3)), GOOD[2]))

    def test_no_tuple_of_tests(self):
        for tests in STRANGE + [[], [("first",)], ("first",), "first", ("kind", "row"), 0]:
            with self.subTest(repr(tests)):
                self.refuse_rule((1, tests, GOOD[2]))

    def test_of_another_form(self):
        wrong = [(), ["first"], ["kind", "row"], "first", ("first", 1), ("first", None), ("last", 1), ("kind",),
                 ("in",), ("name",), ("tag",), ("under",), ("nth",), ("kind", "row", "row"), ("nth", 1, 2),
                 ("name", "a", "b"),
                 ("First",), ("firs",), ("class", "a"), ("", "a"), ("kids", 1), (("first",),)]
        for test in wrong + STRANGE + [(thing,) for thing in STRANGE] + [(thing, "row") for thing in STRANGE]:
            with self.subTest(repr(test)):
                self.refuse_test(test)

    def test_no_kinds(self):
        for word in ["kind", "in"]:
            for kind in STRANGE + ["Row", "rows", "box", "a", 0, ("row",), ["row"]]:
                with self.subTest((word, repr(kind))):
                    self.refuse_test((word, kind))

    def test_no_names(self):
        for word in ["name", "tag", "under"]:
            for name in STRANGE + ["abcdefghi", "A", "1", "a_b", ".a", "#a", 0, ("a",), ["a"]]:
                with self.subTest((word, repr(name))):
                    self.refuse_test((word, name))

    def test_no_nth(self):
        for n in STRANGE + [0, 13, 100, -1, (1,), [1]]:
            with self.subTest(repr(n)):
                self.refuse_test(("nth", n))


class Sets(Rules):
    def test_each_property_at_each_of_its_bounds(self):
        for word, values in VALUES.items():
            for value in values:
                with self.subTest((word, value)):
                    self.let_by([(1, (), ((word, value),))])

    def test_no_values(self):
        for word, values in NO_VALUES.items():
            strange = [thing for thing in STRANGE if not any(thing is one for one in STRANGE_VALUES.get(word, []))]
            for value in values + strange:
                with self.subTest((word, repr(value))):
                    self.refuse_set((word, value))

    def test_all_signs_but_one(self):
        for at in range(300):
            if 33 <= at <= 126 and at != 37:
                self.let_by([(1, (), (("fill", chr(at)),))])
            else:
                self.refuse_set(("fill", chr(at)))

    def test_no_properties(self):
        for word in STRANGE + ["Wide", "width", "tall", "least", "wide ", 0, ("wide",), ["wide"], "kind", "a"]:
            for value in [0, ("hold",), "", "as", True]:
                with self.subTest((repr(word), value)):
                    self.refuse_set((word, value))

    def test_1_to_12(self):
        sets = tuple((word, VALUES[word][0]) for word in VALUES)
        for many in range(1, 13):
            self.let_by([(1, (), sets[:many])])
            self.let_by([(1, (), tuple(reversed(sets))[:many])])
        self.refuse_rule((1, (), ()))
        self.refuse_rule((1, (), sets + (sets[0],)))
        self.refuse_rule((1, (), sets + (("ink", "great"),)))

    def test_no_property_twice(self):
        self.refuse_rule((1, (), (("pad", 1), ("pad", 1))))
        self.refuse_rule((1, (), (("pad", 1), ("gap", 1), ("pad", 2))))

    def test_of_another_form(self):
        for sets in STRANGE + [[], [("pad", 1)], ("pad", 1), {"pad": 1}, "pad", 0]:
            with self.subTest(repr(sets)):
                self.refuse_rule((1, (), sets))
        for pair in STRANGE + [(), ("pad",), ("pad", 1, 1), ["pad", 1], "pa", {"pad": 1}, 0, (("pad", 1),)]:
            with self.subTest(repr(pair)):
                self.refuse_set(pair)


class Held(unittest.TestCase):
    def names_for(self, doc, *tests):
        holds = test_of(tests)
        told = [(name, holds(way_to(doc, name))) for name in names_of(doc)]
        self.assertLessEqual({type(answer) for name, answer in told}, {bool})
        return "".join(name for name, answer in told if answer)

    def test_no_tests_hold_for_all(self):
        self.assertEqual(self.names_for(house()), "abcdefghij")

    def test_kind(self):
        expected = {"blank": "efi", "words": "dj", "row": "a", "flow": "h", "column": "b", "grid": "g", "pile": "c"}
        for kind in KINDS:
            self.assertEqual(self.names_for(house(), ("kind", kind)), expected[kind])

    def test_name(self):
        for name in names_of(house()):
            self.assertEqual(self.names_for(house(), ("name", name)), name)
        for name in ["k", "left", "big", "row"]:
            self.assertEqual(self.names_for(house(), ("name", name)), "")

    def test_tag(self):
        doc = row("a", blank("b", ("x",)), ("row", "c", ("x", "y"), None, (blank("d", ("b",)),)), blank("x"))
        self.assertEqual(self.names_for(doc, ("tag", "x")), "bc")
        self.assertEqual(self.names_for(doc, ("tag", "y")), "c")
        self.assertEqual(self.names_for(doc, ("tag", "b")), "d")
        self.assertEqual(self.names_for(doc, ("tag", "a")), "")

    def test_first_and_last(self):
        self.assertEqual(self.names_for(house(), ("first",)), "bcdhi")
        self.assertEqual(self.names_for(house(), ("last",)), "efhij")
        self.assertEqual(self.names_for(house(), ("first",), ("last",)), "hi")

    def test_nth(self):
        self.assertEqual(self.names_for(house(), ("nth", 1)), "bcdhi")
        self.assertEqual(self.names_for(house(), ("nth", 2)), "efg")
        self.assertEqual(self.names_for(house(), ("nth", 3)), "j")
        self.assertEqual(self.names_for(house(), ("nth", 4)), "")
        doc = row("z", *[blank(name) for name in "abcdefghijkl"])
        for n in range(1, 13):
            self.assertEqual(self.names_for(doc, ("nth", n)), "abcdefghijkl"[n - 1])

    def test_the_root_has_no_place(self):
        for test in [("first",), ("last",)] + [("nth", n) for n in range(1, 13)]:
            self.assertEqual(self.names_for(blank("a"), test), "")

    def test_in(self):
        expected = {"row": "bgj", "column": "cf", "pile": "de", "grid": "h", "flow": "i", "blank": "", "words": ""}
        for kind in KINDS:
            self.assertEqual(self.names_for(house(), ("in", kind)), expected[kind])
            self.assertEqual(self.names_for((kind, "a", (), None, ()), ("in", kind)), "")

    def test_under(self):
        doc = house()
        self.assertEqual(self.names_for(doc, ("under", "a")), "bcdefghij")
        self.assertEqual(self.names_for(doc, ("under", "b")), "cdef")
        self.assertEqual(self.names_for(doc, ("under", "left")), "cdef")
        self.assertEqual(self.names_for(doc, ("under", "g")), "hi")
        for name in ["d", "i", "big", "row", "k"]:
            self.assertEqual(self.names_for(doc, ("under", name)), "")
        self.assertEqual(self.names_for(blank("a", ("x",)), ("under", "x")), "")

    def test_under_a_name_here_and_a_tag_there(self):
        doc = row("a", ("row", "b", ("x",), None, (blank("c"),)), row("x", blank("d", ("x",)), blank("e")), blank("f"))
        self.assertEqual(self.names_for(doc, ("under", "x")), "cde")
        doc = ("row", "a", ("x",), None, (row("b", row("c", blank("d"))),))
        self.assertEqual(self.names_for(doc, ("under", "x")), "bcd")

    def test_names_like_the_words_of_tests(self):
        doc = ("row", "first", ("nth",), None, (row("last", blank("in")), blank("under", ("name",)), blank("kind")))
        self.assertEqual(self.names_for(doc, ("under", "first")), "lastinunderkind")
        self.assertEqual(self.names_for(doc, ("under", "nth")), "lastinunderkind")
        self.assertEqual(self.names_for(doc, ("under", "last")), "in")
        self.assertEqual(self.names_for(doc, ("name", "first")), "first")
        self.assertEqual(self.names_for(doc, ("tag", "name")), "under")
        self.assertEqual(self.names_for(doc, ("first",)), "lastin")
        self.assertEqual(self.names_for(doc, ("last",)), "inkind")

    def test_8_deep(self):
        self.assertEqual(self.names_for(chain(8), ("under", "n1"), ("under", "n7")), "n8")
        self.assertEqual(self.names_for(chain(8), ("in", "column"), ("kind", "blank")), "n8")

    def test_all_must_hold(self):
        doc = house()
        self.assertEqual(self.names_for(doc, ("kind", "blank"), ("last",)), "efi")
        self.assertEqual(self.names_for(doc, ("kind", "blank"), ("first",)), "i")
        self.assertEqual(self.names_for(doc, ("kind", "blank"), ("under", "b"), ("in", "pile"), ("nth", 2)), "e")
        self.assertEqual(self.names_for(doc, ("kind", "blank"), ("under", "b"), ("in", "pile"), ("nth", 1)), "")
        self.assertEqual(self.names_for(doc, ("nth", 1), ("nth", 2)), "")
        self.assertEqual(self.names_for(doc, ("nth", 2), ("nth", 2)), "efg")

    def test_several_are_all_of_each(self):
        for seed in range(20):
            doc = drawn_document(seed)
            for rank, tests, sets in drawn_rules(seed):
                for name in names_of(doc):
                    way = way_to(doc, name)
                    self.assertIs(test_of(tests)(way), all(test_of((test,))(way) for test in tests))


class Plain(unittest.TestCase):
    def test_plain_shape(self):
        shape = plain_shape()
        self.assertIs(type(shape), dict)
        self.assertEqual(list(shape), ORDER)
        expected = [("hold",), ("hold",), 0, 400, 0, 400, 0, 0, False, False, "", "as"]
        self.assertEqual(repr(list(shape.values())), repr(expected))

    def test_it_is_new(self):
        shape = plain_shape()
        shape["pad"] = 5
        shape["more"] = 1
        shape.pop("wide")
        self.assertEqual(list(plain_shape()), ORDER)
        self.assertEqual(plain_shape()["pad"], 0)


class AsItWas(unittest.TestCase):
    def test_what_is_handed_in_stays(self):
        rules = drawn_rules(3)
        need_rules(rules)
        self.assertEqual(rules, drawn_rules(3))
        way = way_to(house(), "d")
        for test in TESTS:
            test_of((test,))(way)
        self.assertEqual(way, way_to(house(), "d"))

    def test_what_is_refused_stays(self):
        tests = [("first",)]
        rules = [GOOD, (1, tests, GOOD[2])]
        self.assertRaises(NoRule, need_rules, rules)
        self.assertEqual(rules, [GOOD, (1, [("first",)], GOOD[2])])

    def test_a_function_told_stays_as_it_was(self):
        one = test_of((("kind", "words"),))
        other = test_of((("kind", "blank"),))
        way = way_to(row("a", words("b", "x")), "b")
        self.assertIs(one(way), True)
        self.assertIs(other(way), False)
        self.assertIs(one(way), True)
