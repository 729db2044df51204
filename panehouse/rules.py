"""Rules: what they are, for which boxes, and the shape where there are none."""

from panehouse.boxes import MOST_KIDS, is_kind, kid_names
from panehouse.errors import NoRule
from panehouse.plain import is_name, is_within

MOST_RULES = 40
MOST_RANK = 99
MOST_TESTS = 4
MOST_CELLS = 400
MOST_SHARE = 99
PERCENT = 37
PLAIN = {
    "wide": ("hold",), "high": ("hold",),
    "leastw": 0, "mostw": 400, "leasth": 0, "mosth": 400,
    "pad": 0, "gap": 0,
    "over": False, "able": False,
    "fill": "", "ink": "as",
}
MOSTS = {"leastw": 400, "mostw": 400, "leasth": 400, "mosth": 400, "pad": 9, "gap": 9}
INKS = ("as", "great", "small")


def plain_shape():
    return dict(PLAIN)


def is_property(thing):
    return isinstance(thing, str) and thing in PLAIN


def has_word(thing):
    # Only a text is compared with words: other things may call themselves like any of them.
    return isinstance(thing, tuple) and 1 <= len(thing) <= 2 and isinstance(thing[0], str)


def is_size(thing):
    if not has_word(thing):
        return False
    if len(thing) == 1:
        return thing[0] == "hold"
    if thing[0] == "fixed":
        return is_within(thing[1], 0, MOST_CELLS)
    return thing[0] == "share" and is_within(thing[1], 1, MOST_SHARE)


def is_fill_sign(thing):
    if not isinstance(thing, str) or len(thing) > 1:
        return False
    return thing == "" or ("!" <= thing <= "~" and ord(thing) != PERCENT)


def is_value(word, thing):
    if word in MOSTS:
        return is_within(thing, 0, MOSTS[word])
    if word in ("wide", "high"):
        return is_size(thing)
    if word in ("over", "able"):
        return isinstance(thing, bool)
    if word == "fill":
        return is_fill_sign(thing)
    return isinstance(thing, str) and thing in INKS


def is_set(thing):
    if not isinstance(thing, tuple) or len(thing) != 2:
        return False
    return is_property(thing[0]) and is_value(thing[0], thing[1])


def are_sets(thing):
    if not isinstance(thing, tuple) or not 1 <= len(thing) <= len(PLAIN):
        return False
    if not all([is_set(pair) for pair in thing]):
        return False
    return len(set([word for word, value in thing])) == len(thing)


def is_test(thing):
    if not has_word(thing):
        return False
    if len(thing) == 1:
        return thing[0] in ("first", "last")
    if thing[0] in ("kind", "in"):
        return is_kind(thing[1])
    if thing[0] in ("name", "tag", "under"):
        return is_name(thing[1])
    return thing[0] == "nth" and is_within(thing[1], 1, MOST_KIDS)


def are_tests(thing):
    if not isinstance(thing, tuple) or len(thing) > MOST_TESTS:
        return False
    return all([is_test(test) for test in thing])


def is_rule(thing):
    if not isinstance(thing, tuple) or len(thing) != 3:
        return False
    return is_within(thing[0], 0, MOST_RANK) and are_tests(thing[1]) and are_sets(thing[2])


def need_rules(thing):
    if not isinstance(thing, (list, tuple)):
        raise NoRule("neither a list nor a tuple")
    if len(thing) > MOST_RULES:
        raise NoRule("more than 40 rules")
    if not all([is_rule(rule) for rule in thing]):
        raise NoRule("a rule is none")


def is_called(box, name):
    return box[1] == name or name in box[2]


def holds_about(test, way):
    box = way[-1]
    about = way[-2]
    names = kid_names(about)
    if test[0] == "first":
        return names[0] == box[1]
    if test[0] == "last":
        return names[-1] == box[1]
    if test[0] == "nth":
        return names.index(box[1]) + 1 == test[1]
    if test[0] == "in":
        return about[0] == test[1]
    return any([is_called(above, test[1]) for above in way[:-1]])


def holds(test, way):
    box = way[-1]
    if test[0] == "kind":
        return box[0] == test[1]
    if test[0] == "name":
        return box[1] == test[1]
    if test[0] == "tag":
        return test[1] in box[2]
    # All other tests ask for a box about it, and the root has none.
    return len(way) > 1 and holds_about(test, way)


def test_of(tests):
    return lambda way: all([holds(test, way) for test in tests])
