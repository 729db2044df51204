"""Texts of boxes: a document written as rows, and read again."""

from panehouse.boxes import need_document
from panehouse.errors import NoBox, NoText

COLUMNS = ("1", "2", "3", "4", "5", "6", "7", "8", "9")


def row_of(box):
    words = [box[0], box[1]]
    if box[0] == "grid":
        words.append(str(box[3]))
    words.extend(["." + tag for tag in box[2]])
    row = " ".join(words)
    if box[0] == "words" and box[3] != "":
        row = row + " : " + box[3]
    return row


def rows_of(box, deep):
    rows = ["  " * deep + row_of(box)]
    for kid in box[4]:
        rows.extend(rows_of(kid, deep + 1))
    return rows


def document_text(doc):
    need_document(doc)
    return "".join([row + "\n" for row in rows_of(doc, 0)])


def columns_of(words):
    return int(words[0]) if words and words[0] in COLUMNS else None


def read_row(row, kids):
    parts = row.partition(" : ")
    words = parts[0].split(" ")
    if len(words) < 2:
        raise NoText("a row without a kind and a name")
    kind = words[0]
    more = None
    tags = words[2:]
    if kind == "words":
        more = parts[2]
    if kind == "grid":
        more = columns_of(tags)
        tags = tags[1:]
    return (kind, words[1], tuple([tag[1:] for tag in tags]), more, tuple(kids))


def taken_kids(waiting, deep):
    kids = []
    while waiting and waiting[-1][0] == deep:
        kids.append(waiting.pop()[1])
    return kids


def read_rows(rows):
    # Read from the end on, so that a box's kids are there ahead of it.
    waiting = []
    for row in reversed(rows):
        bare = row.lstrip(" ")
        deep = (len(row) - len(bare)) // 2
        waiting.append((deep, read_row(bare, taken_kids(waiting, deep + 1))))
    if len(waiting) != 1:
        raise NoText("not one root with all others within")
    return waiting[0][1]


def read_document(text):
    if not isinstance(text, str):
        raise NoText("no text")
    doc = read_rows(text.split("\n")[:-1])
    try:
        written = document_text(doc)
    except NoBox as e:
        raise NoText("no document is written so") from e
    # The reading above lets much by; each document has just one text, and only that is let by here.
    if written != text:
        raise NoText("a document isn't written so")
    return doc
