import re

from samples import Refusing, blank, box, spoilt, words
from panehouse.commands import read_command
from panehouse.errors import NoRow

NAME = "[a-z][a-z0-9]{0,7}"
N = "(?:0|[1-9][0-9]*)"
TAGS = f"(?: [.]{NAME}){{0,4}}"
BOX = (f"(?:(?:blank|row|flow|column|pile) {NAME}{TAGS}|grid {NAME} [1-9]{TAGS}"
       f"|words {NAME}{TAGS}(?: : [A-Za-z0-9]{{1,20}}(?: [A-Za-z0-9]{{1,20}})*)?)")
ROW = re.compile(f"(?:box|paper|take) {NAME}|why {NAME} [^ ]+|(?:at|page) {N} {N}|on|back|show|undo|redo|turned"
                 f"|text {NAME}(?: : .*)?|put {NAME} {N} {BOX}")
ROWS = {"box a": ("box", "a"), "paper b1": ("paper", "b1"), "take abcdefgh": ("take", "abcdefgh"),
        "why a pad": ("why", "a", "pad"), "why a #!?": ("why", "a", "#!?"), "at 0 10": ("at", 0, 10),
        "at 99999 1": ("at", 99999, 1), "page 80 24": ("page", 80, 24), "page 401 999": ("page", 401, 999),
        "on": ("on",), "back": ("back",), "show": ("show",), "undo": ("undo",), "redo": ("redo",),
        "turned": ("turned",), "text a": ("text", "a", ""), "text a : ": ("text", "a", ""),
        "text a : x y": ("text", "a", "x y"), "text a : : x  !": ("text", "a", ": x  !"),
        "text a :  : ": ("text", "a", " : "), "text text : text": ("text", "text", "text"),
        "put a 0 blank b": ("put", "a", 0, blank("b")), "put put 12 words b .t : x y": ("put", "put", 12, words(
            "b", "x y", ("t",))), "put a 99 grid b 3": ("put", "a", 99, box("grid", "b", more=3)),
        "put a 0 words b": ("put", "a", 0, words("b", ""))}


class Read(Refusing):
    def test_each(self):
        for text, command in ROWS.items():
            with self.subTest(text):
                self.assertIsNotNone(ROW.fullmatch(text))
                self.assertEqual(repr(read_command(text)), repr(command))

    def test_no_commands(self):
        for text in ["", " ", "a", "On", "on ", " on", "on on", "on a", "shows", "box", "box ", "box A", "box a b",
                     "box  a",
                     "box 1a", "box abcdefghi", "box #a", "paper", "paper a a", "take", "take A", "why", "why a",
                     "why a ", "why a pad 1", "why A pad", "why  a pad", "at", "at 1", "at 1 2 3", "at -1 0", "at 01 0",
                     "at 0 00", "at a b", "at 1  2", "at 1 2 ", "at +1 2", "at \u0663 1", "page", "page 1", "page 01 1",
                     "page -1 1", "text", "text ", "text A", "text a b", "text a :", "text a: x", "text  a : x",
                     "text a  : x", "text : x", "text a b : x", "texta : x", "put", "put a", "put a 0", "put a 0 ",
                     "put a 0 b", "put a 0 blank", "put a 0 blank A", "put A 0 blank b", "put a -1 blank b",
                     "put a 01 blank b", "put a x blank b", "put a 0  blank b", "put a  0 blank b", "put a 0 blank b ",
                     "put a 0 grid b", "put a 0 grid b 0", "put a 0 blank b : x", "put a 0 words b : ",
                     "put a 0 words b : x  y", "put a 0 box b", "put a blank b", "undo 1", "redo a", "turned 1",
                     "show 1", "back a", "do", "blank a", "rule 1 : pad 1", "# a", "on\r", "\ton",
                     "put a 0 words b : " + "x" * 21, "put a 0 words b : " + "x " * 40 + "x", "put a 0 blank b .t .t"]:
            with self.subTest(repr(text)):
                self.refused_as(NoRow, read_command, text)

    def test_spoilt_ones(self):
        let_by = 0
        for text in ROWS:
            for other in spoilt(text, " .:aZ01-#\t\u00e9"):
                if ROW.fullmatch(other):
                    self.assertEqual(read_command(other)[0], other.split(" ")[0])
                    let_by += 1
                else:
                    self.refused_as(NoRow, read_command, other)
        self.assertGreater(let_by, 100)

    def test_numbers_of_any_size(self):
        self.assertEqual(read_command("at " + "9" * 300 + " 0"), ("at", 10 ** 300 - 1, 0))
