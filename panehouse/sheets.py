"""Sheets: a text of a document, rules, a page and commands, taken apart."""

from panehouse.boxtexts import read_document
from panehouse.commands import read_command
from panehouse.errors import NoPage, NoRow, NoText
from panehouse.laying import need_page
from panehouse.ruletexts import read_rules


def rows_in(text):
    if not isinstance(text, str) or not text.endswith("\n"):
        raise NoRow("no rows, each with a line end")
    return text.split("\n")[:-1]


def cut_at_empty(rows):
    if "" not in rows:
        raise NoRow("no empty row")
    place = rows.index("")
    return (rows[:place], rows[place + 1:])


def text_of(rows):
    return "".join([row + "\n" for row in rows])


def read_page(rows):
    if not rows:
        raise NoRow("no page")
    command = read_command(rows[0])
    if command[0] != "page":
        raise NoRow("another command in the page's place")
    try:
        need_page(command[1], command[2])
    except NoPage as e:
        raise NoRow("a page that is none") from e
    return (command[1], command[2])


def parts_of(text):
    first = cut_at_empty(rows_in(text))
    second = cut_at_empty(first[1])
    try:
        doc = read_document(text_of(first[0]))
        rules = read_rules(text_of(second[0]))
    except NoText as e:
        raise NoRow("a document or rules that can't be read") from e
    return (doc, rules, read_page(second[1]), second[1][1:])
