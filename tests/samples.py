"""Documents, rules, wrong things and a share told another way, for several tests."""

import random
import unittest
from unittest import mock

from panehouse.boxes import boxes_of
from panehouse.rules import plain_shape


class Odd:
    """Calls itself like anything."""

    def __eq__(self, other):
        return True

    __hash__ = None


class Refusing(unittest.TestCase):
    def refused_as(self, refusal, deed, *handed):
        """Refused with that very class, not with one below or above it."""
        with self.assertRaises(refusal) as caught:
            deed(*handed)
        self.assertIs(type(caught.exception), refusal)


# Nothing of these is a number, a list, a tuple, or a name of a box.
STRANGE = [None, True, False, -1, 1.0, 2.5, 1j, "", "1", "a b", b"a", {}, {"a": 1}, {1}, object(), int, len,
           range(3), Odd(), mock.ANY]


def not_numbers():
    return STRANGE + [[], [1], (), (1,), float("nan"), float("inf"), -(10 ** 50)]


def blank(name, tags=()):
    return ("blank", name, tags, None, ())


def words(name, text, tags=()):
    return ("words", name, tags, text, ())


def row(name, *kids):
    return ("row", name, (), None, kids)


def box(kind, name, *kids, more=None):
    return (kind, name, (), more, kids)


def house():
    """A document with all kinds; its order is a b c d e f g h i j."""
    d = words("d", "Some words here", ("big", "red"))
    c = ("pile", "c", (), None, (d, blank("e")))
    b = ("column", "b", ("left",), None, (c, blank("f")))
    g = ("grid", "g", (), 3, (("flow", "h", (), None, (blank("i"),)),))
    return ("row", "a", (), None, (b, g, words("j", "")))


def chain(deep):
    """A document so many deep."""
    doc = blank("n" + str(deep))
    for at in range(deep - 1, 0, -1):
        doc = ("column", "n" + str(at), (), None, (doc,))
    return doc


def crowd(many):
    """A document of so many boxes, 3 deep, of at most 1 + 12 * 13 boxes."""
    left = many - 1
    groups = []
    while left > 0:
        mine = min(left, 13)
        at = len(groups)
        groups.append(row(f"g{at}", *[blank(f"g{at}k{k}") for k in range(mine - 1)]))
        left -= mine
    return row("root", *groups)


def wide_row(name, many):
    """A row of so many kids."""
    return row(name, *[blank(f"k{at}") for at in range(many)])


def text_of_80():
    return " ".join(["a" * 20, "B" * 20, "3" * 20, "d" * 17])


def spoilt(text, signs):
    """The text with one sign left out, twice, changed with the next one, put in or changed for each of the signs."""
    for at, sign in enumerate(text):
        ahead, behind = text[:at], text[at + 1:]
        yield from [ahead + behind, ahead + sign + sign + behind, ahead + behind[:1] + sign + behind[1:]]
        for other in signs:
            yield from [ahead + other + sign + behind, ahead + other + behind]
    for other in signs:
        yield text + other


def no_documents():
    """Things that are no document: of another form, and one more than each bound."""
    return STRANGE + [0, (), [], ("row",), list(blank("a")), blank("A"), blank("a") + ((),), wide_row("a", 13),
                      crowd(41), chain(9), row("a", blank("a")), words("a", "x" * 21), ("row", "a", (), None, []),
                      ("grid", "a", (), 10, ()), ("grid", "a", (), True, ())]


def no_rules():
    """Things that are no rules: of another form, and one more than each bound."""
    good = (1, (), (("pad", 1),))
    return STRANGE + [0, 5, good, [list(good)], [good[:2]], [good + (0,)], [good] * 41, [(100, (), (("pad", 1),))],
                      [(True, (), (("pad", 1),))], [(1, (), ())], [(1, (), (("pad", 10),))],
                      [(1, (("first",),) * 5, good[2])], [good, None], (good, [])]


DRAWN_NAMES = ["red", "big", "left", "a1", "x"]


def drawn_text(chance):
    text = ""
    for many in range(chance.randrange(6)):
        word = "".join(chance.choice("aZb0Y9") for at in range(chance.choice([1, 2, 5, 20])))
        longer = word if text == "" else text + " " + word
        text = longer if len(longer) <= 80 else text
    return text


def drawn_box(chance, names, deep):
    """A box that takes its names, one after the other, from the end of the list."""
    kinds = ["blank", "words"] + ([] if deep == 8 else ["row", "flow", "column", "grid", "pile"] * 2)
    kind = chance.choice(kinds)
    name = names.pop()
    tags = tuple(chance.sample(DRAWN_NAMES, chance.choice([0, 0, 1, 2, 4])))
    more = {"words": drawn_text(chance), "grid": chance.randint(1, 9)}.get(kind)
    kids = []
    if kind not in ("blank", "words"):
        for many in range(chance.choice([1, 2, 3, 12])):
            if names:
                kids.append(drawn_box(chance, names, deep + 1))
    return (kind, name, tags, more, tuple(kids))


def drawn_document(seed):
    chance = random.Random(seed)
    names = [f"n{at}" for at in range(chance.choice([1, 5, 20, 38]))] + DRAWN_NAMES[:2]
    chance.shuffle(names)
    return drawn_box(chance, names, 1)


KINDS = ["blank", "words", "row", "flow", "column", "grid", "pile"]
SIGNS = [chr(at) for at in range(33, 127) if at != 37]
SIZES = [("hold",), ("fixed", 0), ("fixed", 1), ("fixed", 399), ("fixed", 400),
         ("share", 1), ("share", 2), ("share", 99)]
# Of each property, in their order, values at their bounds and between.
VALUES = {"wide": SIZES, "high": SIZES, "leastw": [0, 1, 400], "mostw": [0, 1, 400], "leasth": [0, 1, 400],
          "mosth": [0, 1, 400], "pad": [0, 1, 9], "gap": [0, 1, 5, 9], "over": [False, True], "able": [False, True],
          "fill": ["", "a"] + SIGNS, "ink": ["as", "great", "small"]}
TESTS = ([("kind", kind) for kind in KINDS] + [("in", kind) for kind in KINDS] + [("first",), ("last",)]
         + [("nth", n) for n in range(1, 13)]
         + [(word, name) for word in ["name", "tag", "under"] for name in DRAWN_NAMES])


def drawn_rules(seed, many=40):
    chance = random.Random(seed)
    rules = []
    for at in range(many):
        tests = tuple(chance.choice(TESTS) for test in range(chance.choice([0, 1, 1, 1, 2, 4])))
        words_set = chance.sample(list(VALUES), chance.choice([1, 2, 3, 12]))
        sets = tuple((word, chance.choice(VALUES[word])) for word in words_set)
        rules.append((chance.choice([0, 1, 2, 50, 99]), tests, sets))
    return rules


# Of each property values that a small page can show, wanted most the ones told first.
SMALL_VALUES = {"wide": [("hold",)] * 3 + [("fixed", 0), ("fixed", 3), ("fixed", 12), ("share", 1), ("share", 3)],
                "high": [("hold",)] * 3 + [("fixed", 0), ("fixed", 2), ("fixed", 7), ("share", 1), ("share", 3)],
                "leastw": [0] * 4 + [1, 4, 9], "mostw": [400] * 4 + [0, 3, 8, 20], "leasth": [0] * 4 + [1, 3],
                "mosth": [400] * 4 + [0, 2, 5], "pad": [0, 0, 0, 1, 2], "gap": [0, 0, 1, 2], "over": [False, True],
                "able": [False, True], "fill": ["", "", "#", "."], "ink": ["as", "great", "small"]}


def shaped(doc, **others):
    """Plain shapes of a document, but for what is told of a box by its name."""
    return {box[1]: dict(plain_shape(), **others.get(box[1], {})) for box in boxes_of(doc)}


def drawn_shapes(doc, seed):
    """Shapes of a document, each property of each box by chance; rules by name could tell them all."""
    chance = random.Random(seed)
    return {box[1]: {word: chance.choice(values) for word, values in SMALL_VALUES.items()} for box in boxes_of(doc)}


def share_by_hand(total, weights):
    """The share told another way: the cells that are left are given one by one."""
    whole = sum(weights)
    if whole == 0:
        return [0] * len(weights)
    shares = []
    rests = []
    for weight in weights:
        share, rest = divmod(total * weight, whole)
        shares.append(share)
        rests.append(rest)
    while sum(shares) < total:
        place = rests.index(max(rests))
        shares[place] += 1
        rests[place] = -1
    return shares
