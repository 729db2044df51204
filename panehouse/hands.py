"""Hands: changes done to a document, undone and done again."""

from panehouse.boxes import need_document
from panehouse.doing import with_change
from panehouse.errors import NoUndo


class Hands:
    def __init__(self, doc):
        need_document(doc)
        self.doc = doc
        # A document never changes, so those ahead and behind are kept as they are.
        self.ahead = []
        self.behind = []

    def document(self):
        return self.doc

    def do(self, change):
        came = with_change(self.doc, change)
        self.ahead.append(self.doc)
        self.behind = []
        self.doc = came

    def undo(self):
        if not self.ahead:
            raise NoUndo("nothing to undo")
        self.behind.append(self.doc)
        self.doc = self.ahead.pop()

    def redo(self):
        if not self.behind:
            raise NoUndo("nothing to do again")
        self.ahead.append(self.doc)
        self.doc = self.behind.pop()

    def many(self):
        return (len(self.ahead), len(self.behind))
