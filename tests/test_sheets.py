from samples import STRANGE, Refusing, blank, crowd, drawn_document, drawn_rules, house
from panehouse.boxtexts import document_text
from panehouse.errors import NoRow
from panehouse.ruletexts import rules_text
from panehouse.sheets import parts_of

HOUSE = document_text(house())
RULES = [(1, (), (("pad", 1),)), (2, (("kind", "words"),), (("fill", ";"), ("able", True)))]
RULES_TEXT = rules_text(RULES)
SHEET = HOUSE + "\n" + RULES_TEXT + "\npage 80 24\n"


class Parts(Refusing):
    def check(self, text, doc, rules, page, rows):
        told = parts_of(text)
        self.assertEqual(told, (doc, tuple(rules), page, rows))
        self.assertEqual([type(part) for part in told], [tuple, tuple, tuple, list])

    def refuse(self, text):
        self.refused_as(NoRow, parts_of, text)

    def test_all_parts(self):
        self.check(SHEET + "show\nbox a\n", house(), RULES, (80, 24), ["show", "box a"])

    def test_no_commands(self):
        self.check(SHEET, house(), RULES, (80, 24), [])

    def test_no_rules(self):
        self.check("blank a\n\n\npage 80 24\n", blank("a"), (), (80, 24), [])
        self.check("blank a\n\n\npage 80 24\non\n", blank("a"), (), (80, 24), ["on"])

    def test_commands_as_they_are(self):
        for rows in [[""], ["", ""], ["no command"], ["  show "], ["page 1 1", "", "page 401 1"], ["blank a"],
                     ["rule 1 : pad 1"], ["\u00e9", "\r", "a\x0bb"]]:
            self.check(SHEET + "".join(one + "\n" for one in rows), house(), RULES, (80, 24), rows)

    def test_pages(self):
        for wide, high in [(0, 0), (0, 400), (400, 0), (400, 400), (7, 10)]:
            self.check(f"blank a\n\n\npage {wide} {high}\n", blank("a"), (), (wide, high), [])

    def test_no_page(self):
        for page in ["", "page", "page 80", "page 80 24 1", "page 401 24", "page 80 401", "page 080 24", "page 80 024",
                     "page 00 0", "page -1 5", "page +1 5", "page 1.0 5", "page a b", "page  80 24", "page 80  24",
                     "page 80 24 ", " page 80 24", "Page 80 24", "page\t80 24", "page \u0663 5", "80 24", "show",
                     "box a",
                     "page 80 24\r", "page " + "9" * 5000 + " 5", "pages 80 24", "at 5 5"]:
            with self.subTest(page[:40]):
                self.refuse(f"blank a\n\n\n{page}\n")
                self.refuse(f"blank a\n\n\n{page}\nshow\n")
        self.refuse("blank a\n\n\n")
        self.refuse("blank a\n\n")

    def test_empty_rows(self):
        for text in ["", "\n", "\n\n", "\n\n\n", "\n\npage 80 24\n", "\n\n\npage 80 24\n", "blank a\n", "blank a\n\n",
                     "blank a\npage 80 24\n", "blank a\n\npage 80 24\n", "blank a\n\n\n\npage 80 24\n",
                     "\nblank a\n\n\npage 80 24\n", "blank a\n \n\npage 80 24\n", "blank a\n\n \npage 80 24\n"]:
            with self.subTest(text):
                self.refuse(text)

    def test_without_its_last_line_end(self):
        self.refuse(SHEET[:-1])
        self.refuse(SHEET + "show")
        self.refuse(SHEET + "show\r")

    def test_a_document_that_cant_be_read(self):
        for text in ["blank A", "blank a ", " blank a", "blank a\nblank b", "row a\n    blank b", "words a : x  y",
                     "rule 1 : pad 1", "page 80 24", document_text(crowd(40)) + "  blank z"]:
            self.refuse(text + "\n\n\npage 80 24\n")

    def test_rules_that_cant_be_read(self):
        for text in ["rule 01 : pad 1", "rule 1 : pad 10", "rule 1", "blank a", "page 80 24", " rule 1 : pad 1",
                     "rule 1 : pad 1 ", "rule 1 : pad 1\n" * 40 + "rule 1 : pad 1"]:
            self.refuse("blank a\n\n" + text + "\n\npage 80 24\n")

    def test_no_texts(self):
        for thing in STRANGE + [0, [], [SHEET], (SHEET,), SHEET.encode(), house()]:
            with self.subTest(repr(thing)[:40]):
                self.refuse(thing)

    def test_drawn_ones(self):
        for seed in range(40):
            doc, rules = drawn_document(seed), drawn_rules(seed, seed % 41)
            text = document_text(doc) + "\n" + rules_text(rules) + "\npage 9 9\nq\n"
            self.check(text, doc, rules, (9, 9), ["q"])

    def test_what_is_told_is_the_askers_own(self):
        told = parts_of(SHEET + "show\n")
        told[3].append("q")
        self.assertEqual(parts_of(SHEET + "show\n")[3], ["show"])
