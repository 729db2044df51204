"""The desk: a sheet's commands answered, one behind the other."""

from panehouse.boxes import way_to
from panehouse.cells import draw_page
from panehouse.commands import read_command
from panehouse.edits import with_kid, with_text, without
from panehouse.errors import NoBox, NoName, NoPage, NoPlace, NoRule, NoUndo
from panehouse.hands import Hands
from panehouse.keys import Keys
from panehouse.leaning import Page
from panehouse.points import top_at
from panehouse.shapes import cause
from panehouse.sheets import parts_of
from panehouse.telling import change_between
from panehouse.turning import cells_between

DEEDS = ("text", "take", "put", "page", "undo", "redo")


def words_row(things):
    return " ".join([str(thing) for thing in things])


def name_or_none(name):
    return "none" if name is None else name


def drawn(page):
    size = page.size()
    return draw_page(page.document(), page.shapes(), page.layout(), size[0], size[1])


def name_under(page, x, y):
    size = page.size()
    return top_at(page.document(), page.shapes(), page.layout(), size[0], size[1], x, y)


def laid_row(page):
    names = [name for name, words in page.laid()]
    return words_row([len(names)] + names)


def turned_rows(one, other):
    rows = [words_row(cell) for cell in cells_between(one, other)]
    return rows if rows else ["none"]


def edited(doc, command):
    if command[0] == "text":
        return with_text(doc, command[1], command[2])
    if command[0] == "take":
        return without(doc, command[1])
    return with_kid(doc, command[1], command[3], command[2])


class Desk:
    def __init__(self, doc, rules, wide, high):
        self.page = Page(doc, rules, wide, high)
        self.hands = Hands(doc)
        self.focus = Keys(doc, self.page.shapes())
        self.drawing = drawn(self.page)
        self.turning = ["none"]

    def answer(self, command):
        try:
            return self.deed(command) if command[0] in DEEDS else self.told_of(command)
        except NoName:
            return ["no noname"]
        except NoPlace:
            return ["no noplace"]
        except NoBox:
            return ["no nobox"]
        except NoRule:
            return ["no norule"]
        except NoPage:
            return ["no nopage"]
        except NoUndo:
            return ["no noundo"]

    def told_of(self, command):
        if command[0] == "show":
            return list(self.drawing)
        if command[0] == "turned":
            return list(self.turning)
        if command[0] == "at":
            return [name_or_none(name_under(self.page, command[1], command[2]))]
        if command[0] in ("on", "back"):
            return [name_or_none(self.key_behind(command[0]))]
        return [self.told_of_box(command)]

    def key_behind(self, word):
        if word == "on":
            self.focus.on()
        else:
            self.focus.back()
        return self.focus.at()

    def told_of_box(self, command):
        name = command[1]
        way_to(self.page.document(), name)
        if command[0] == "why":
            return words_row(cause(self.page.document(), self.page.rules(), name, command[2]))
        if command[0] == "paper":
            return words_row(self.page.papers()[name][:3])
        return words_row(self.page.layout()[name])

    def deed(self, command):
        ahead = self.page.size()
        if command[0] == "page":
            self.page.resize(command[1], command[2])
        else:
            self.change(command)
        drawing = drawn(self.page)
        self.turning = turned_rows(self.drawing, drawing) if self.page.size() == ahead else ["all"]
        self.drawing = drawing
        return [laid_row(self.page)]

    def change(self, command):
        doc = self.hands.document()
        if command[0] == "undo":
            self.hands.undo()
        elif command[0] == "redo":
            self.hands.redo()
        else:
            self.hands.do(change_between(doc, edited(doc, command)))
        self.page.become(self.hands.document())
        self.focus.changed(self.hands.document(), self.page.shapes())


def answers(text):
    parts = parts_of(text)
    # All rows are read ahead of all answers, so that a row that is no command refuses the whole text.
    commands = [read_command(row) for row in parts[3]]
    desk = Desk(parts[0], parts[1], parts[2][0], parts[2][1])
    return [desk.answer(command) for command in commands]
