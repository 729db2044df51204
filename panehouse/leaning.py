"""Leaning: a page whose boxes are laid anew only where what they lean on has changed."""

from panehouse.boxes import need_document
from panehouse.laying import Laying, need_page, spots_in
from panehouse.papers import papers_in
from panehouse.rules import need_rules
from panehouse.shapes import shapes_of

REASONS = ("box", "shape", "kids", "wide", "high")


def reasons(took, ahead):
    return tuple([word for word, one, other in zip(REASONS, took, ahead) if one != other])


def news_of(laying, ahead):
    news = []
    for box in laying.boxes:
        name = box[1]
        if ahead is None or name not in ahead.taken:
            news.append((name, ("new",)))
        elif laying.taken[name] != ahead.taken[name]:
            news.append((name, reasons(laying.taken[name], ahead.taken[name])))
    return news


class Page:
    def __init__(self, doc, rules=None, wide=80, high=24):
        need_document(doc)
        told = () if rules is None else rules
        need_rules(told)
        need_page(wide, high)
        self.laying = None
        self.lay(doc, tuple(told), wide, high)

    def lay(self, doc, told, wide, high):
        ahead = self.laying
        self.doc = doc
        self.told = told
        self.wide = wide
        self.high = high
        self.laying = Laying(doc, shapes_of(doc, told), wide, high, ahead)
        self.news = news_of(self.laying, ahead)

    def become(self, doc):
        need_document(doc)
        self.lay(doc, self.told, self.wide, self.high)

    def resize(self, wide, high):
        need_page(wide, high)
        self.lay(self.doc, self.told, wide, high)

    def reset(self, rules):
        need_rules(rules)
        self.lay(self.doc, tuple(rules), self.wide, self.high)

    def document(self):
        return self.doc

    def rules(self):
        return self.told

    def size(self):
        return (self.wide, self.high)

    def shapes(self):
        # Made anew at each call, like all that is told here, so that what the asker does to it stays there.
        return shapes_of(self.doc, self.told)

    def layout(self):
        return spots_in(self.laying)

    def papers(self):
        return papers_in(self.laying)

    def laid(self):
        return list(self.news)
