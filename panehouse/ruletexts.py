"""Texts of rules: rules written as rows, and read again."""

from panehouse.errors import NoRule, NoText
from panehouse.plain import number_in
from panehouse.rules import MOSTS, need_rules

AHEAD = {"kind": "", "name": "#", "tag": ".", "first": "first", "last": "last",
         "nth": "nth ", "in": "in ", "under": "under "}
TWO_WORDS = ("nth", "in", "under")
TRUTHS = {"yes": True, "no": False}


def test_text(test):
    # first and last have nothing behind them; all others have one thing.
    return AHEAD[test[0]] + "".join([str(thing) for thing in test[1:]])


def size_text(size):
    return "share " + str(size[1]) if size[0] == "share" else str(size[-1])


def value_text(word, value):
    if word in ("wide", "high"):
        return size_text(value)
    if word in ("over", "able"):
        return "yes" if value else "no"
    if value == "":
        return "none"
    return str(value)


def rule_row(rule):
    words = ["rule", str(rule[0])] + [test_text(test) for test in rule[1]]
    sets = [word + " " + value_text(word, value) for word, value in rule[2]]
    return " ".join(words) + " : " + "; ".join(sets)


def rules_text(rules):
    need_rules(rules)
    return "".join([rule_row(rule) + "\n" for rule in rules])


def read_test(words):
    word = words[0]
    if word in ("first", "last"):
        return (word,)
    if word == "nth":
        return (word, number_in(words[-1]))
    if word in TWO_WORDS:
        return (word, words[-1])
    if word[:1] == "#":
        return ("name", word[1:])
    if word[:1] == ".":
        return ("tag", word[1:])
    return ("kind", word)


def read_tests(words):
    tests = []
    while words:
        many = 2 if words[0] in TWO_WORDS else 1
        tests.append(read_test(words[:many]))
        words = words[many:]
    return tuple(tests)


def read_size(text):
    if text == "hold":
        return (text,)
    if text.startswith("share "):
        return ("share", number_in(text[len("share "):]))
    return ("fixed", number_in(text))


def read_value(word, text):
    if word in ("wide", "high"):
        return read_size(text)
    if word in MOSTS:
        return number_in(text)
    if word in ("over", "able"):
        return TRUTHS.get(text)
    if word == "fill" and text == "none":
        return ""
    return text


def read_set(text):
    parts = text.partition(" ")
    return (parts[0], read_value(parts[0], parts[2]))


def read_rule(row):
    parts = row.partition(" : ")
    words = parts[0].split(" ")
    if len(words) < 2:
        raise NoText("a row without a rank")
    return (number_in(words[1]), read_tests(words[2:]), tuple([read_set(text) for text in parts[2].split("; ")]))


def read_rules(text):
    if not isinstance(text, str):
        raise NoText("no text")
    rules = tuple([read_rule(row) for row in text.split("\n")[:-1]])
    try:
        written = rules_text(rules)
    except NoRule as e:
        raise NoText("no rules are written so") from e
    # The reading above lets much by; rules have just one text, and only that is let by here.
    if written != text:
        raise NoText("rules aren't written so")
    return rules
