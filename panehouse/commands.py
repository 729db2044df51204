"""Commands: the rows of a sheet that ask or do something, read."""

from panehouse.boxtexts import read_document
from panehouse.errors import NoRow, NoText
from panehouse.plain import is_name, number_in

ALONE = ("on", "back", "show", "undo", "redo", "turned")
WITH_NAME = ("box", "paper", "take")
WITH_NUMBERS = ("at", "page")


def need_words(words, many):
    if len(words) != many or "" in words:
        raise NoRow("a row of too many or too few words")


def need_name(word):
    if not is_name(word):
        raise NoRow("no name")


def read_number(word):
    n = number_in(word)
    if n is None:
        raise NoRow("no number")
    return n


def read_named(words):
    need_words(words, 2)
    need_name(words[1])
    return (words[0], words[1])


def read_numbers(words):
    need_words(words, 3)
    return (words[0], read_number(words[1]), read_number(words[2]))


def read_why(words):
    need_words(words, 3)
    need_name(words[1])
    return (words[0], words[1], words[2])


def read_text(row):
    # The text may be any, as it is the document that is asked whether it takes it.
    parts = row.partition(" : ")
    words = parts[0].split(" ")
    need_words(words, 2)
    need_name(words[1])
    return (words[0], words[1], parts[2])


def read_put(row):
    words = row.split(" ", 3)
    need_words(words, 4)
    need_name(words[1])
    place = read_number(words[2])
    try:
        box = read_document(words[3] + "\n")
    except NoText as e:
        raise NoRow("a row that writes no box") from e
    return (words[0], words[1], place, box)


def read_command(row):
    words = row.split(" ")
    if words[0] == "text":
        return read_text(row)
    if words[0] == "put":
        return read_put(row)
    if words[0] == "why":
        return read_why(words)
    if words[0] in WITH_NAME:
        return read_named(words)
    if words[0] in WITH_NUMBERS:
        return read_numbers(words)
    if row in ALONE:
        return (row,)
    raise NoRow("no command")
