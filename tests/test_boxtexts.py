import re
import unittest

from samples import (STRANGE, Refusing, blank, chain, crowd, drawn_document, house, no_documents, row, spoilt,
                     text_of_80, wide_row, words)
from panehouse.boxes import need_document
from panehouse.boxtexts import document_text, read_document
from panehouse.errors import NoBox, NoText

HOUSE = """row a
  column b .left
    pile c
      words d .big .red : Some words here
      blank e
    blank f
  grid g 3
    flow h
      blank i
  words j
"""
NAME = r"[a-z][a-z0-9]{0,7}"
TAGS = r"(?P<tags>(?: \." + NAME + r"){0,4})"
ROW = re.compile(r"(?P<blanks>(?:  )*)(?P<kind>blank|words|row|flow|column|grid|pile) (?P<name>" + NAME + r")"
                 r"(?P<columns> [1-9])?" + TAGS + r"(?P<text> : [A-Za-z0-9]{1,20}(?: [A-Za-z0-9]{1,20})*)?")
# Signs that a text might be spoilt with: those that have a meaning in it, and those that look like them.
SIGNS = " \n.:aZ0139,-\t\r\x0b\u00a0\u00e9\u0663\u00b2"


def row_holds(held):
    """Whether a row that fits ROW writes a box by itself."""
    tags = held["tags"].split()
    if len(set(tags)) < len(tags) or (held["columns"] is not None) != (held["kind"] == "grid"):
        return False
    return held["text"] is None or (held["kind"] == "words" and len(held["text"]) <= 83)


def is_document_text(text):
    """Told another way: row by row, by a pattern, with the way to each row kept."""
    way = []
    names = set()
    rows = text.split("\n")
    if rows.pop() != "" or not 1 <= len(rows) <= 40:
        return False
    for place, one in enumerate(rows):
        held = ROW.fullmatch(one)
        if held is None or not row_holds(held) or held["name"] in names:
            return False
        deep = len(held["blanks"]) // 2
        if deep > min(len(way), 7) or (deep == 0) != (place == 0):
            return False
        way = way[:deep]
        if way:
            way[-1][1] += 1
            if way[-1][0] in ("blank", "words") or way[-1][1] > 12:
                return False
        names.add(held["name"])
        way.append([held["kind"], 0])
    return True


class Written(Refusing):
    def test_rows(self):
        self.assertEqual(document_text(house()), HOUSE)
        self.assertEqual(document_text(blank("a")), "blank a\n")
        self.assertEqual(document_text(blank("a", ("x", "y1"))), "blank a .x .y1\n")
        self.assertEqual(document_text(words("a", "")), "words a\n")
        self.assertEqual(document_text(words("a", "", ("x",))), "words a .x\n")
        self.assertEqual(document_text(words("a", "Good day", ("x",))), "words a .x : Good day\n")
        self.assertEqual(document_text(words("a", text_of_80())), "words a : " + text_of_80() + "\n")
        self.assertEqual(document_text(("grid", "a", ("x", "y"), 9, (blank("b"),))), "grid a 9 .x .y\n  blank b\n")

    def test_each_kind(self):
        for kind in ["row", "flow", "column", "pile"]:
            doc = (kind, "a", ("t",), None, (blank("b"), blank("c")))
            self.assertEqual(document_text(doc), kind + " a .t\n  blank b\n  blank c\n")

    def test_deep(self):
        rows = ["  " * at + f"column n{at + 1}\n" for at in range(7)] + ["  " * 7 + "blank n8\n"]
        self.assertEqual(document_text(chain(8)), "".join(rows))

    def test_no_document(self):
        for thing in no_documents():
            with self.subTest(repr(thing)[:80]):
                self.refused_as(NoBox, document_text, thing)


class Texts(Refusing):
    def refuse(self, text):
        self.refused_as(NoText, read_document, text)

    def check(self, text):
        """Read where the pattern lets it by, and refused else."""
        if not is_document_text(text):
            self.refuse(text)
            return False
        doc = read_document(text)
        need_document(doc)
        self.assertEqual(document_text(doc), text)
        return True


class Read(Texts):
    def test_read_back(self):
        docs = [house(), blank("a"), chain(8), crowd(40), wide_row("a", 12), words("a", text_of_80()), words("a", ""),
                ("grid", "a", ("b", "c", "d", "e"), 1, ()), ("grid", "a", (), 9, (words("b", "x"),))]
        for doc in docs + [drawn_document(seed) for seed in range(150)]:
            text = document_text(doc)
            self.assertTrue(is_document_text(text), text)
            self.assertEqual(read_document(text), doc)

    def test_read(self):
        self.assertEqual(read_document(HOUSE), house())
        self.assertEqual(read_document("row a .x\n  words b : Hi 2 you\n  grid c 4 .y\n"),
                         ("row", "a", ("x",), None, (words("b", "Hi 2 you"), ("grid", "c", ("y",), 4, ()))))

    def test_rows_alone(self):
        wrong = ["", "\n", " \n", "blank a", "\nblank a\n", "blank a\n\n", "blank\n", "a\n", "blank \n", " blank a\n",
                 "  blank a\n", "\tblank a\n", "blank  a\n", "blank a \n", "blank\ta\n", "Blank a\n", "box a\n",
                 "blank a b\n", "blank A\n", "blank 1\n", "blank abcdefghi\n", "blank a.b\n", "blank .a\n",
                 "blank a\r\n", "blank a\x0bblank b\n", "blank a\u2028", "blank a .\n", "blank a ..b\n", "blank a .B\n",
                 "blank a . b\n",
                 "blank a .b .b\n", "blank a .b .c .d .e .f\n", "blank a .b.c\n", "blank a .abcdefghi\n",
                 "blank a .b  .c\n"]
        for text in wrong:
            with self.subTest(repr(text)):
                self.assertFalse(is_document_text(text))
                self.refuse(text)

    def test_columns(self):
        for columns in range(1, 10):
            self.assertEqual(read_document(f"grid a {columns}\n"), ("grid", "a", (), columns, ()))
        for columns in ["0", "10", "01", "+1", "-1", "1.0", "x", ".x", "", " 1", "1 ", "1 2", "\u0663", "\u00b2",
                        "True", "None", "1_0", "9" * 5000]:
            with self.subTest(columns):
                self.refuse(f"grid a {columns}\n")
                self.refuse(f"grid a {columns} .x\n")
        for text in ["grid a\n", "grid a .x\n", "grid a .x 2\n", "grid 2 a\n", "row a 2\n", "blank a 2\n",
                     "words a 2\n", "words a 2 : x\n", "grid a 2 : x\n"]:
            self.refuse(text)

    def test_texts_of_words(self):
        for text in ["x", "Good day", text_of_80(), "a " * 39 + "b"]:
            self.assertEqual(read_document(f"words a : {text}\n"), words("a", text))
        for behind in [" : ", " :", ":", ": x", " :x", " :  x", " : x ", " : x  y", " : " + text_of_80() + "d",
                       " : " + "x" * 21, " : x : y", " : x.", " : \u00e9", " : x\ty", "  : x", " x", " : x .b", " : ,"]:
            with self.subTest(behind):
                self.refuse(f"words a{behind}\n")
                self.refuse(f"words a .b{behind}\n")
        for kind in ["blank", "row", "flow", "column", "grid", "grid a 1", "pile"]:
            self.refuse(f"{kind} a : x\n")
            self.refuse(f"{kind} a : \n")

    def test_blanks_ahead(self):
        for text in ["row a\nblank b\n", "row a\n blank b\n", "row a\n   blank b\n", "row a\n    blank b\n",
                     "row a\n  row b\n   blank c\n", "row a\n  row b\n      blank c\n", "  row a\n    blank b\n",
                     "row a\n    blank b\n  blank c\n", "row a\n  blank b\nblank c\n", "row a\n\tblank b\n",
                     "blank a\n  blank b\n", "row a\n  words b\n    blank c\n", "row a\n  words b : x\n    blank c\n"]:
            with self.subTest(text):
                self.assertFalse(is_document_text(text))
                self.refuse(text)

    def test_bounds(self):
        self.assertEqual(read_document(document_text(crowd(40))), crowd(40))
        self.refuse(document_text(crowd(40)) + "  blank new\n")
        self.refuse(document_text(chain(8)).replace("blank", "row") + "  " * 8 + "blank new\n")
        self.assertEqual(read_document(document_text(wide_row("a", 12))), wide_row("a", 12))
        self.refuse(document_text(wide_row("a", 12)) + "  blank new\n")
        self.refuse("row a\n  blank a\n")
        self.refuse("row a\n  blank b\n  row c\n    blank b\n")
        self.refuse("".join("  " * at + f"row n{at}\n" for at in range(400)))
        self.refuse("blank a\n" * 5000)

    def test_no_texts(self):
        for thing in STRANGE + [0, 5, (), [], ["blank a\n"], ("blank a\n",), b"blank a\n", house(), float("nan")]:
            with self.subTest(repr(thing)):
                self.refuse(thing)


class Spoilt(Texts):
    """Of a text with something in it changed, just what another document writes is read."""

    def texts(self):
        small = "grid a 2 .x\n  words b .y .z : Go on\n  pile c\n    blank d\n"
        return [HOUSE, small, "words a\n", document_text(chain(8)), document_text(words("a", text_of_80(), ("x",)))]

    def test_one_sign(self):
        let_by = 0
        for text in self.texts():
            for other in spoilt(text, SIGNS):
                let_by += self.check(other)
        self.assertGreater(let_by, 100)

    def test_one_row(self):
        let_by = 0
        for text in self.texts() + [document_text(drawn_document(seed)) for seed in range(30)]:
            rows = text.splitlines(keepends=True)
            for at, one in enumerate(rows):
                let_by += self.check("".join(rows[:at] + rows[at + 1:]))
                let_by += self.check("".join(rows[:at] + [one, one] + rows[at + 1:]))
                for to in range(len(rows)):
                    left = rows[:at] + rows[at + 1:]
                    let_by += self.check("".join(left[:to] + [one] + left[to:]))
                for other in ["\n", "blank new\n", "  blank new\n", "    words new : x\n", "      row new\n",
                              "  grid new\n"]:
                    let_by += self.check("".join(rows[:at] + [other] + rows[at:]))
                    let_by += self.check("".join(rows[:at] + [other] + rows[at + 1:]))
        self.assertGreater(let_by, 100)


class AsItWas(unittest.TestCase):
    def test_what_is_handed_in_stays(self):
        doc = house()
        document_text(doc)
        self.assertEqual(doc, house())

    def test_what_is_refused_stays(self):
        kids = [blank("b")]
        self.assertRaises(NoBox, document_text, ("row", "a", (), None, kids))
        rows = ["blank a\n"]
        self.assertRaises(NoText, read_document, rows)
        self.assertEqual((kids, rows), ([blank("b")], ["blank a\n"]))

    def test_asked_again_it_is_told_anew(self):
        self.assertEqual(document_text(house()), document_text(house()))
        self.assertEqual(read_document(HOUSE), read_document(HOUSE))
        self.assertIs(type(read_document(HOUSE)), tuple)
        self.assertEqual(read_document(document_text(row("a"))), row("a"))
