import re
import unittest

from samples import KINDS, SIGNS, STRANGE, TESTS, VALUES, Refusing, drawn_rules, no_rules, spoilt
from panehouse.errors import NoRule, NoText
from panehouse.rules import need_rules
from panehouse.ruletexts import read_rules, rules_text

PAD = (("pad", 1),)
NAME = "[a-z][a-z0-9]{0,7}"
TO_400 = "(?:[0-9]|[1-9][0-9]|[123][0-9][0-9]|400)"
SHARE = "share [1-9][0-9]?"
TEST = ("(?:" + "|".join(KINDS) + f"|#{NAME}|[.]{NAME}|first|last|nth (?:[1-9]|1[012])|in (?:" + "|".join(KINDS)
        + f")|under {NAME})")
VALUE = {"wide": f"(?:hold|{TO_400}|{SHARE})", "high": f"(?:hold|{TO_400}|{SHARE})", "leastw": TO_400,
         "mostw": TO_400, "leasth": TO_400, "mosth": TO_400, "pad": "[0-9]", "gap": "[0-9]", "over": "(?:yes|no)",
         "able": "(?:yes|no)", "fill": "(?:none|[!-$&-~])", "ink": "(?:as|great|small)"}
SET = "(?:" + "|".join(f"{word} {value}" for word, value in VALUE.items()) + ")"
ROW = re.compile(f"rule [1-9]?[0-9](?: {TEST}){{0,4}} : (?P<sets>{SET}(?:; {SET}){{0,11}})")
# Signs that a text might be spoilt with: those that have a meaning in it, and those that look like them.
ODD_SIGNS = " \n.:;#aZ019,-\t\r\u00a0\u0663\u00b2%"
MANY = ((3, (("kind", "words"), ("tag", "big"), ("under", "a1"), ("nth", 12)), (("fill", ";"), ("pad", 1))),
        (0, (), (("fill", ":"), ("wide", ("share", 99)), ("over", True))),
        (99, (("first",), ("last",), ("in", "grid"), ("name", "x")), (("ink", "great"), ("high", ("fixed", 0)))))
MANY_TEXT = """rule 3 words .big under a1 nth 12 : fill ;; pad 1
rule 0 : fill :; wide share 99; over yes
rule 99 first last in grid #x : ink great; high 0
"""


def is_rules_text(text):
    """Told another way: by a pattern for each row."""
    rows = text.split("\n")
    if rows.pop() != "" or len(rows) > 40:
        return False
    held = [ROW.fullmatch(one) for one in rows]
    if not all(held):
        return False
    for one in held:
        # A set begins behind "; "; a fill of a sign may look like its end, but no sign is a blank.
        properties = [piece.split(" ")[0] for piece in one["sets"].split("; ")]
        if len(set(properties)) < len(properties):
            return False
    return True


class Written(Refusing):
    def row(self, rule, expected):
        self.assertEqual(rules_text([rule]), expected + "\n")
        self.assertEqual(rules_text((rule,)), expected + "\n")
        self.assertEqual(read_rules(expected + "\n"), (rule,))

    def test_no_rules(self):
        self.assertEqual(rules_text([]), "")
        self.assertEqual(rules_text(()), "")
        self.assertEqual(read_rules(""), ())

    def test_rows(self):
        self.assertEqual(rules_text(MANY), MANY_TEXT)
        self.assertEqual(rules_text(list(MANY)), MANY_TEXT)
        self.assertEqual(read_rules(MANY_TEXT), MANY)

    def test_each_test(self):
        for kind in KINDS:
            self.row((1, (("kind", kind),), PAD), f"rule 1 {kind} : pad 1")
            self.row((1, (("in", kind),), PAD), f"rule 1 in {kind} : pad 1")
        self.row((1, (("name", "ab"),), PAD), "rule 1 #ab : pad 1")
        self.row((1, (("tag", "ab"),), PAD), "rule 1 .ab : pad 1")
        self.row((1, (("under", "ab"),), PAD), "rule 1 under ab : pad 1")
        self.row((1, (("first",),), PAD), "rule 1 first : pad 1")
        self.row((1, (("last",),), PAD), "rule 1 last : pad 1")
        for n in range(1, 13):
            self.row((1, (("nth", n),), PAD), f"rule 1 nth {n} : pad 1")

    def test_names_like_words_of_the_row(self):
        for name in ["first", "last", "nth", "in", "under", "rule", "row", "pad", "none"]:
            self.row((1, (("under", name), ("name", name), ("tag", name)), PAD),
                     f"rule 1 under {name} #{name} .{name} : pad 1")

    def test_tests_alike_and_in_any_order(self):
        self.row((1, (("first",), ("first",)), PAD), "rule 1 first first : pad 1")
        self.row((1, (("under", "in"), ("in", "row"), ("kind", "row"), ("under", "in")), PAD),
                 "rule 1 under in in row row under in : pad 1")

    def test_each_value(self):
        for word in ["wide", "high"]:
            self.row((1, (), ((word, ("hold",)),)), f"rule 1 : {word} hold")
            for n in [0, 1, 10, 99, 400]:
                self.row((1, (), ((word, ("fixed", n)),)), f"rule 1 : {word} {n}")
            for n in [1, 10, 99]:
                self.row((1, (), ((word, ("share", n)),)), f"rule 1 : {word} share {n}")
        for word in ["leastw", "mostw", "leasth", "mosth"]:
            for n in [0, 1, 10, 400]:
                self.row((1, (), ((word, n),)), f"rule 1 : {word} {n}")
        for word in ["pad", "gap"]:
            for n in range(10):
                self.row((1, (), ((word, n),)), f"rule 1 : {word} {n}")
        for word in ["over", "able"]:
            self.row((1, (), ((word, True),)), f"rule 1 : {word} yes")
            self.row((1, (), ((word, False),)), f"rule 1 : {word} no")
        for ink in ["as", "great", "small"]:
            self.row((1, (), (("ink", ink),)), f"rule 1 : ink {ink}")

    def test_each_fill(self):
        self.row((1, (), (("fill", ""),)), "rule 1 : fill none")
        self.row((1, (), (("fill", ""), ("pad", 1))), "rule 1 : fill none; pad 1")
        for sign in SIGNS:
            self.row((1, (), (("fill", sign),)), f"rule 1 : fill {sign}")
            self.row((1, (), (("fill", sign), ("pad", 1))), f"rule 1 : fill {sign}; pad 1")
            self.row((1, (), (("gap", 0), ("fill", sign), ("pad", 1))), f"rule 1 : gap 0; fill {sign}; pad 1")

    def test_ranks(self):
        for rank in range(100):
            self.row((rank, (), PAD), f"rule {rank} : pad 1")

    def test_12_sets_in_any_order(self):
        sets = tuple((word, VALUES[word][1]) for word in VALUES)
        expected = ["wide 0", "high 0", "leastw 1", "mostw 1", "leasth 1", "mosth 1", "pad 1", "gap 1", "over yes",
                    "able yes", "fill a", "ink great"]
        for turn in range(12):
            self.row((1, (), sets[turn:] + sets[:turn]), "rule 1 : " + "; ".join(expected[turn:] + expected[:turn]))
        self.row((1, (), sets[::-1]), "rule 1 : " + "; ".join(expected[::-1]))

    def test_no_rules_are_refused(self):
        for thing in no_rules():
            with self.subTest(repr(thing)[:80]):
                self.refused_as(NoRule, rules_text, thing)


class Texts(Refusing):
    def refuse(self, text):
        self.refused_as(NoText, read_rules, text)

    def check(self, text):
        """Read where the pattern lets it by, and refused else."""
        if not is_rules_text(text):
            self.refuse(text)
            return False
        rules = read_rules(text)
        need_rules(rules)
        self.assertIs(type(rules), tuple)
        self.assertEqual(rules_text(rules), text)
        return True


class Read(Texts):
    def test_read_back(self):
        for seed in range(100):
            rules = drawn_rules(seed, seed % 41)
            text = rules_text(rules)
            self.assertTrue(is_rules_text(text))
            self.assertEqual(repr(read_rules(text)), repr(tuple(rules)))
        for test in TESTS:
            rules = ((5, (test, test), PAD),)
            self.assertEqual(read_rules(rules_text(rules)), rules)

    def test_two_sets_cut_behind_a_fill(self):
        self.assertEqual(read_rules("rule 1 : fill ;; pad 1\n"), ((1, (), (("fill", ";"), ("pad", 1))),))
        self.refuse("rule 1 : fill ; pad 1\n")
        self.refuse("rule 1 : fill ;;; pad 1\n")
        self.refuse("rule 1 : fill ;;pad 1\n")
        self.refuse("rule 1 : fill ; ; pad 1\n")

    def test_cut_at_the_first_colon(self):
        self.assertEqual(read_rules("rule 1 : fill :\n"), ((1, (), (("fill", ":"),)),))
        self.refuse("rule 1 : : pad 1\n")
        self.refuse("rule 1 : fill : : pad 1\n")
        self.refuse("rule 1 : pad 1 : gap 1\n")

    def test_no_nought_ahead(self):
        for text in ["rule 01 : pad 1\n", "rule 00 : pad 1\n", "rule 1 : pad 01\n", "rule 1 : pad 00\n",
                     "rule 1 nth 01 : pad 1\n", "rule 1 : wide 010\n", "rule 1 : wide share 01\n",
                     "rule 1 : leastw 000\n", "rule 1 : mosth 0400\n"]:
            with self.subTest(text):
                self.refuse(text)

    def test_bounds(self):
        for text in ["rule 100 : pad 1\n", "rule -1 : pad 1\n", "rule 1 : pad 10\n", "rule 1 : gap 10\n",
                     "rule 1 : wide 401\n", "rule 1 : wide share 0\n", "rule 1 : wide share 100\n",
                     "rule 1 : leastw 401\n", "rule 1 nth 0 : pad 1\n", "rule 1 nth 13 : pad 1\n",
                     "rule 1 #abcdefghi : pad 1\n", "rule 1" + " first" * 5 + " : pad 1\n", "rule 1 : pad 1; pad 1\n",
                     "rule 1 : pad 1; gap 1; pad 2\n", "rule " + "9" * 5000 + " : pad 1\n"]:
            with self.subTest(text[:80]):
                self.assertFalse(is_rules_text(text))
                self.refuse(text)
        self.assertEqual(len(read_rules("rule 1 : pad 1\n" * 40)), 40)
        self.refuse("rule 1 : pad 1\n" * 41)

    def test_rows_alone(self):
        wrong = ["\n", " ", "rule", "rule\n", "rule 1\n", "rule 1 :\n", "rule 1 : \n", "rule : pad 1\n", "1 : pad 1\n",
                 "rule 1 : pad 1", "rule 1 : pad 1\n\n", "\nrule 1 : pad 1\n", "rule 1 : pad 1\nrule 1 : pad 1",
                 "rule 1: pad 1\n", "rule 1 :pad 1\n", "rule 1  : pad 1\n", "rule 1 :  pad 1\n", "rule  1 : pad 1\n",
                 " rule 1 : pad 1\n", "rule 1 : pad 1 \n", "rule 1 : pad  1\n", "rule 1 : pad\n", "rule 1 : pad 1;\n",
                 "rule 1 : pad 1; \n", "rule 1 : ; pad 1\n", "rule 1 : pad 1;gap 1\n", "rule 1 : pad 1 ; gap 1\n",
                 "rule 1 : pad 1;  gap 1\n", "Rule 1 : pad 1\n", "rules 1 : pad 1\n", "rule 1 : Pad 1\n",
                 "rule 1 box : pad 1\n", "rule 1 # : pad 1\n", "rule 1 . : pad 1\n", "rule 1 a : pad 1\n",
                 "rule 1 nth : pad 1\n", "rule 1 in : pad 1\n", "rule 1 under : pad 1\n", "rule 1 in a : pad 1\n",
                 "rule 1 under #a : pad 1\n", "rule 1 under .a : pad 1\n", "rule 1 kind row : pad 1\n",
                 "rule 1 name a : pad 1\n", "rule 1 first last : wide\n", "rule 1 : wide share\n",
                 "rule 1 : wide fixed 5\n", "rule 1 : wide holds\n", "rule 1 : wide share  5\n", "rule 1 : over True\n",
                 "rule 1 : over 1\n", "rule 1 : able none\n", "rule 1 : fill \n", "rule 1 : fill\n",
                 "rule 1 : fill ab\n", "rule 1 : fill %\n", "rule 1 : fill  \n", "rule 1 : ink none\n",
                 "rule 1 : ink\n", "rule 1 : pad yes\n", "rule 1 : pad +1\n", "rule 1 : pad \u0663\n",
                 "rule \u00b9 : pad 1\n", "rule 1 : pad 1\r\n", "rule 1 : pad 1\x0b", "rule\t1 : pad 1\n",
                 "rule 1 : pad 1\u2028", "rule 1 : none\n", "rule 1 : fill none none\n", "rule True : pad 1\n"]
        for text in wrong:
            with self.subTest(repr(text)):
                self.assertFalse(is_rules_text(text))
                self.refuse(text)

    def test_no_texts(self):
        for thing in STRANGE + [0, 5, (), [], [MANY_TEXT], (MANY_TEXT,), MANY_TEXT.encode(), MANY, float("nan")]:
            if thing != "" or not isinstance(thing, str):
                with self.subTest(repr(thing)):
                    self.refuse(thing)


class Spoilt(Texts):
    """Of a text with something in it changed, just what other rules write is read."""

    def texts(self):
        return [MANY_TEXT, rules_text([(1, (), tuple((word, VALUES[word][-1]) for word in VALUES))]),
                "rule 7 in row under in nth 3 : fill none; high hold; able no\n"]

    def test_one_sign(self):
        let_by = 0
        for text in self.texts():
            for other in spoilt(text, ODD_SIGNS):
                let_by += self.check(other)
        self.assertGreater(let_by, 100)

    def test_one_word(self):
        let_by = 0
        for text in self.texts():
            words = text.split(" ")
            for at, word in enumerate(words):
                let_by += self.check(" ".join(words[:at] + words[at + 1:]))
                let_by += self.check(" ".join(words[:at] + [word, word] + words[at + 1:]))
                for other in ["rule", "1", ":", ";", "", "first", "nth", "row", "in", "under", "#a", ".a", "pad",
                              "pad 1;", "gap 2;", "fill", "none", "hold", "share", "yes"]:
                    let_by += self.check(" ".join(words[:at] + [other] + words[at:]))
                    let_by += self.check(" ".join(words[:at] + [other] + words[at + 1:]))
        self.assertGreater(let_by, 30)

    def test_one_row(self):
        let_by = 0
        for text in self.texts() + [rules_text(drawn_rules(seed, 40)) for seed in range(5)]:
            rows = text.splitlines(keepends=True)
            for at, one in enumerate(rows):
                let_by += self.check("".join(rows[:at] + rows[at + 1:]))
                let_by += self.check("".join(rows[:at] + [one, one] + rows[at + 1:]))
                for other in ["\n", " \n", "rule 1 : pad 1\n", "rule 1\n", "blank a\n", one[:-1]]:
                    let_by += self.check("".join(rows[:at] + [other] + rows[at:]))
                    let_by += self.check("".join(rows[:at] + [other] + rows[at + 1:]))
        self.assertGreater(let_by, 100)


class AsItWas(unittest.TestCase):
    def test_what_is_handed_in_stays(self):
        rules = drawn_rules(3)
        rules_text(rules)
        self.assertEqual(rules, drawn_rules(3))

    def test_what_is_refused_stays(self):
        rules = [(1, [], PAD)]
        self.assertRaises(NoRule, rules_text, rules)
        self.assertEqual(rules, [(1, [], PAD)])

    def test_asked_again_it_is_told_anew(self):
        self.assertEqual(read_rules(MANY_TEXT), read_rules(MANY_TEXT))
        self.assertEqual(rules_text(MANY), rules_text(MANY))
