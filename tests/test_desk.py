import random

from retold import drawn_by_hand, laid_by_hand, lay_by_hand, seen_by_hand, taken_by_hand
from samples import STRANGE, Refusing, drawn_document, drawn_rules
from panehouse.boxes import names_of
from panehouse.boxtexts import document_text, read_document
from panehouse.checker import failing
from panehouse.commands import read_command
from panehouse.desk import Desk, answers
from panehouse.edits import with_kid, with_text, without
from panehouse.errors import NoRow, PaneError
from panehouse.keys import Keys
from panehouse.ruletexts import read_rules, rules_text
from panehouse.shapes import cause, shapes_of

DOC = """column root
  words title .big : Good day
  row mid
    blank left
    words right : hello all
"""
RULES = """rule 1 #root : wide share 1; gap 1
rule 2 words : able yes; ink great
rule 3 #left : wide share 1; high share 1; fill .
rule 3 #mid : wide share 1
"""
SHEET = DOC + "\n" + RULES + "\npage 16 4\n"
DRAWN = ["GOOD DAY        ", "                ", "...... HELLO ALL", "                "]


class Desks(Refusing):
    def ask(self, *rows, sheet=SHEET):
        told = answers(sheet + "".join(one + "\n" for one in rows))
        self.assertIs(type(told), list)
        self.assertEqual({type(answer) for answer in told} - {list}, set())
        self.assertEqual({type(text) for answer in told for text in answer} - {str}, set())
        self.assertEqual(len(told), len(rows))
        return told

    def last(self, *rows, sheet=SHEET):
        return self.ask(*rows, sheet=sheet)[-1]

    def check(self, row, *expected, ahead=(), sheet=SHEET):
        self.assertEqual(self.last(*ahead, row, sheet=sheet), list(expected))


class Asked(Desks):
    def test_no_commands(self):
        self.assertEqual(answers(SHEET), [])
        self.assertEqual(answers("blank a\n\n\npage 0 0\n"), [])

    def test_box(self):
        self.check("box root", "0 0 16 3")
        self.check("box right", "7 2 9 1")
        self.check("box q", "no noname")

    def test_why(self):
        self.check("why right ink", "rule 1")
        self.check("why right gap", "from mid")
        self.check("why mid gap", "from root")
        self.check("why root gap", "rule 0")
        self.check("why right pad", "plain")
        self.check("why q pad", "no noname")
        self.check("why q zzz", "no noname")
        for word in ["zzz", "Pad", "wide;", "#", "\u00e9"]:
            self.check(f"why right {word}", "no norule")

    def test_paper(self):
        self.check("paper right", "5 9 1")
        self.check("paper root", "6 10 3")
        self.check("paper q", "no noname")

    def test_at(self):
        self.check("at 0 0", "title")
        self.check("at 0 1", "root")
        self.check("at 7 2", "right")
        self.check("at 6 2", "mid")
        self.check("at 5 2", "left")
        self.check("at 0 3", "none")
        self.check("at 16 0", "none")
        self.check("at 999999999999 0", "none")

    def test_show(self):
        self.check("show", *DRAWN)
        self.check("show", ahead=["page 16 0"])
        self.check("show", "", "", ahead=["page 0 2"])

    def test_on_and_back(self):
        self.assertEqual(self.ask("on", "on", "on", "back", "back"), [["title"], ["right"], ["title"], ["right"],
                                                                      ["title"]])
        self.assertEqual(self.ask("back", "back", "back"), [["right"], ["title"], ["right"]])
        plain = DOC + "\n\npage 16 4\n"
        self.assertEqual(self.ask("on", "back", sheet=plain), [["none"], ["none"]])


class Deeds(Desks):
    def test_text(self):
        self.check("text title : Good eve", "1 title")
        self.check("text title : Good night", "2 root title")
        self.check("text title : Good day", "0")
        self.check("text title", "2 root title")
        self.check("text title : ", "2 root title")
        self.check("show", "                ", "...... HELLO ALL", "                ", "                ",
                   ahead=["text title"])

    def test_text_refused(self):
        self.check("text q : x", "no noname")
        self.check("text q : x  y", "no noname")
        for text in ["x  y", " x", "x ", "\u00e9", "x" * 21, " ", " : ", "a.b"]:
            self.check(f"text title : {text}", "no nobox")
        for name in ["root", "left", "mid"]:
            self.check(f"text {name} : x", "no nobox")
            self.check(f"text {name}", "no nobox")

    def test_take(self):
        self.check("take title", "1 root")
        self.check("take left", "2 root mid")
        self.check("take mid", "1 root")
        self.check("take q", "no noname")
        self.check("take root", "no noplace")
        self.check("box left", "no noname", ahead=["take mid"])

    def test_put(self):
        self.check("put root 0 words new .big : Some", "2 root new")
        self.check("put mid 2 blank new", "4 root mid left new")
        self.check("put root 2 grid new 3", "2 root new")
        self.check("put root 3 blank new", "no noplace")
        self.check("put title 0 blank new", "no noplace")
        self.check("put left 0 blank left", "no noplace")
        self.check("put q 0 blank new", "no noname")
        self.check("put root 0 blank left", "no nobox")
        self.check("box new", "0 0 4 1", ahead=["put root 0 words new : Some"])

    def test_put_to_the_bounds(self):
        rows = [f"put mid 0 blank n{at}" for at in range(10)]
        self.check("put mid 0 blank n10", "no nobox", ahead=rows)

    def test_page(self):
        self.check("page 16 9", "0")
        self.check("page 16 4", "0")
        self.check("page 17 4", "3 root mid left")
        self.check("page 401 4", "no nopage")
        self.check("page 4 401", "no nopage")
        self.check("show", *[one + " " for one in DRAWN[:2]], "....... HELLO ALL", ahead=["page 17 3"])
        self.check("show", *DRAWN, ahead=["page 401 4"])

    def test_undo_and_redo(self):
        told = self.ask("undo", "redo", "text title : Good eve", "redo", "undo", "undo", "redo", "redo")
        self.assertEqual(told, [["no noundo"], ["no noundo"], ["1 title"], ["no noundo"], ["1 title"], ["no noundo"],
                                ["1 title"], ["no noundo"]])

    def test_undo_of_a_box_gone(self):
        told = self.ask("take mid", "undo", "show", "redo", "box mid")
        self.assertEqual(told, [["1 root"], ["4 root mid left right"], DRAWN, ["1 root"], ["no noname"]])

    def test_one_done_behind_an_undo(self):
        told = self.ask("text title : One", "undo", "text title : Two", "redo", "undo", "undo", "show")
        self.assertEqual([told[3], told[5]], [["no noundo"]] * 2)
        self.assertEqual(told[6], DRAWN)

    def test_refused_deeds_and_pages_are_not_undone(self):
        told = self.ask("text title : Good eve", "take root", "page 20 4", "text root", "undo", "undo", "show")
        self.assertEqual(told[4:6], [["1 title"], ["no noundo"]])
        self.assertEqual(told[6][0], "GOOD DAY".ljust(20))

    def test_a_text_that_changes_nothing_is_done_too(self):
        self.assertEqual(self.ask("text title : Good day", "undo", "undo"), [["0"], ["0"], ["no noundo"]])


class Turned(Desks):
    def test_behind_nothing(self):
        self.check("turned", "none")
        self.check("turned", "none", ahead=["on", "show", "undo", "take q", "page 401 1"])

    def test_cells(self):
        self.check("turned", "0 5 E", "0 6 V", "0 7 E", ahead=["text title : Good eve"])
        self.check("turned", "0 6 O", "0 7 G", ahead=["text title : Good dog"])
        self.check("turned", *[f"0 {x}  " for x in [0, 1, 2, 3, 5, 6, 7]], *[f"1 {x} ." for x in range(6)],
                   *[f"1 {x} {sign}" for x, sign in enumerate("HELLO", 7)],
                   *[f"1 {x} {sign}" for x, sign in enumerate("ALL", 13)],
                   *[f"2 {x}  " for x in list(range(6)) + list(range(7, 12)) + [13, 14, 15]], ahead=["text title"])

    def test_no_cell(self):
        self.check("turned", "none", ahead=["text title : Good day"])
        self.check("turned", "none", ahead=["text title : good DAY"])
        self.check("turned", "none", ahead=["page 16 4"])

    def test_all(self):
        for page in ["page 17 4", "page 16 5", "page 16 3", "page 0 0"]:
            self.check("turned", "all", ahead=[page])

    def test_the_last_that_was_done(self):
        self.check("turned", "0 5 E", "0 6 V", "0 7 E",
                   ahead=["take title", "undo", "text title : Good eve", "take root", "page 401 4", "show", "on",
                          "turned"])
        self.check("turned", "0 5 D", "0 6 A", "0 7 Y",
                   ahead=["text title : Good eve", "page 17 4", "page 16 4", "undo"])
        self.check("turned", "none", ahead=["page 17 4", "page 17 4"])
        self.check("turned", "all", ahead=["text title : Good eve", "page 17 4", "undo", "page 16 4"])


class Keyed(Desks):
    def test_keys_go_along(self):
        self.check("back", "right", ahead=["on", "take title"])
        self.check("on", "title", ahead=["on", "on", "take mid"])
        self.check("on", "right", ahead=["on", "take title", "undo", "text title : x", "back"])
        self.check("on", "title", ahead=["on", "take title", "take mid", "undo", "undo"])

    def test_a_new_one_is_come_to(self):
        self.assertEqual(self.ask("on", "put root 1 words new : q", "on", "on", "undo", "back"),
                         [["title"], ["2 root new"], ["new"], ["right"], ["1 root"], ["title"]])

    def test_where_they_are_goes_to_the_next(self):
        told = self.ask("put root 1 words new : q", "on", "on", "undo", "on")
        self.assertEqual([told[2], told[4]], [["new"], ["title"]])

    def test_from_none_they_stay_there(self):
        self.check("on", "title", ahead=["text title : x", "take mid", "undo"])
        self.check("back", "right", ahead=["take title", "undo"])


class Refused(Desks):
    def test_ahead_of_all_answers(self):
        for text in ["q", "", "box", "box A", "show ", "at 01 2", "put root 0 blank", "why title", "page 1",
                     "text title :"]:
            with self.subTest(text):
                for rows in [text + "\n", "show\n" + text + "\n", text + "\nshow\n", "take q\n" + text + "\nundo\n"]:
                    self.refused_as(NoRow, answers, SHEET + rows)

    def test_no_sheet(self):
        for text in ["", "\n", DOC, DOC + "\n", DOC + "\n" + RULES, DOC + "\n" + RULES + "\n", SHEET[:-1],
                     SHEET + "show",
                     "\n" + SHEET, SHEET.replace("page 16 4", "page 401 4"), SHEET.replace("page 16 4", "page 016 4"),
                     SHEET.replace("rule 1", "rule 01"), SHEET.replace("  row", " row"), SHEET.replace("\n\n", "\n")]:
            with self.subTest(text):
                self.refused_as(NoRow, answers, text)

    def test_no_text(self):
        for thing in STRANGE + [0, [], [SHEET], (SHEET,), SHEET.encode()]:
            self.refused_as(NoRow, answers, thing)

    def test_told_anew(self):
        told = answers(SHEET + "show\nturned\n")
        told[0].append("q")
        told.append("q")
        self.assertEqual(answers(SHEET + "show\nturned\n"), [DRAWN, ["none"]])

    def test_what_a_row_told_is_apart_from_the_next(self):
        desk = Desk(read_document(DOC), read_rules(RULES), 16, 4)
        desk.answer(("show",)).append("q")
        desk.answer(("turned",)).append("q")
        self.assertEqual([desk.answer(("show",)), desk.answer(("turned",))], [DRAWN, ["none"]])


class Model:
    """The desk told another way: all is laid and drawn anew behind each row, and nothing but documents is kept."""

    def __init__(self, doc, rules, wide, high):
        self.docs, self.place, self.rules, self.size = [doc], 0, rules, (wide, high)
        self.keys = Keys(doc, shapes_of(doc, rules))
        self.turned = ["none"]

    def doc(self):
        return self.docs[self.place]

    def shapes(self):
        return shapes_of(self.doc(), self.rules)

    def layout(self):
        laid = lay_by_hand(self.doc(), self.shapes(), *self.size).all()
        return {one.name: (one.x, one.y, one.wide, one.high) for one in laid}

    def papers(self):
        return {one.name: one.paper() for one in lay_by_hand(self.doc(), self.shapes(), *self.size).all()}

    def drawn(self):
        return drawn_by_hand(self.doc(), self.shapes(), self.layout(), *self.size)

    def answer(self, row):
        try:
            return self.told(row, row.split(" "))
        except PaneError as error:
            return ["no " + type(error).__name__.lower()]
        except KeyError:
            return ["no noname"]
        except IndexError:
            return ["no noundo"]

    def told(self, row, words):
        if words[0] in ("text", "take", "put", "page", "undo", "redo"):
            return self.done(row, words)
        if words[0] in ("on", "back"):
            getattr(self.keys, words[0])()
            return [self.keys.at() or "none"]
        if words[0] == "at":
            seen = seen_by_hand(self.doc(), self.shapes(), self.layout(), *self.size)
            return [([name for name in seen if (int(words[1]), int(words[2])) in seen[name]] or ["none"])[-1]]
        return {"show": lambda: self.drawn(), "turned": lambda: self.turned,
                "box": lambda: [" ".join(map(str, self.layout()[words[1]]))],
                "paper": lambda: [" ".join(map(str, self.papers()[words[1]][:3]))],
                "why": lambda: [" ".join(map(str, cause(self.doc(), self.rules, words[1], words[2])))]}[words[0]]()

    def done(self, row, words):
        ahead = taken_by_hand(self.doc(), self.shapes(), *self.size)
        drawn, size = self.drawn(), self.size
        if words[0] == "page":
            Desk(self.doc(), (), 0, 0).page.resize(int(words[1]), int(words[2]))
            self.size = (int(words[1]), int(words[2]))
        elif words[0] in ("undo", "redo"):
            place = self.place + (-1 if words[0] == "undo" else 1)
            self.docs[place if place >= 0 else len(self.docs)]
            self.place = place
        else:
            new = {"text": lambda: with_text(self.doc(), words[1], row.partition(" : ")[2]),
                   "take": lambda: without(self.doc(), words[1]),
                   "put": lambda: with_kid(self.doc(), words[1], read_document(row.split(" ", 3)[3] + "\n"),
                                           int(words[2]))}[words[0]]()
            self.place += 1
            self.docs[self.place:] = [new]
        if words[0] != "page":
            self.keys.changed(self.doc(), self.shapes())
        self.turned = ["all"]
        if size == self.size:
            self.turned = [f"{y} {x} {sign}" for y, one in enumerate(self.drawn()) for x, sign in enumerate(one)
                           if drawn[y][x] != sign] or ["none"]
        names = [name for name, why in laid_by_hand(ahead, taken_by_hand(self.doc(), self.shapes(), *self.size))]
        return [" ".join([str(len(names))] + names)]


def drawn_row(chance, names):
    name = chance.choice(names + ["q"])
    return chance.choice([
        f"box {name}", f"paper {name}", f"why {name} {chance.choice(['pad', 'gap', 'zzz'])}", "show", "turned",
        "turned", f"at {chance.randrange(40)} {chance.randrange(20)}", "on", "on", "back", "undo", "undo", "redo",
        f"page {chance.choice([0, 9, 20, 30, 401])} {chance.choice([0, 5, 12])}", f"take {name}",
        f"text {name} : {chance.choice(['', 'ab', 'Some More words', 'x  y'])}", f"text {name}",
        f"put {name} {chance.randrange(3)} {chance.choice(['words new .red : Hi you', 'blank x', 'grid new2 2'])}"])


class Whole(Desks):
    """From text to cells, over the whole program."""

    def sheets(self, many):
        for seed in range(many):
            chance = random.Random(seed)
            doc, rules = drawn_document(seed), drawn_rules(seed, chance.choice([0, 4, 12]))
            names = names_of(doc)
            rows = [drawn_row(chance, names) for row in range(25)]
            yield doc, rules, rows

    def test_as_told_another_way(self):
        refused = 0
        for doc, rules, rows in self.sheets(60):
            sheet = document_text(doc) + "\n" + rules_text(rules) + "\npage 20 12\n"
            told = self.ask(*rows, sheet=sheet)
            model = Model(doc, rules, 20, 12)
            for row, answer in zip(rows, told):
                with self.subTest(row):
                    self.assertEqual(answer, model.answer(row))
                refused += answer[:1] != [] and answer[0].startswith("no no")
        self.assertGreater(refused, 200)

    def test_nobody_fails_behind_each_deed(self):
        for doc, rules, rows in self.sheets(25):
            desk = Desk(doc, rules, 20, 12)
            for row in rows:
                desk.answer(read_command(row))
                page = desk.page
                told = failing(page.document(), page.shapes(), *page.size(), page.layout(), page.papers())
                self.assertEqual(told, [])
