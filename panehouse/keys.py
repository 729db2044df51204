"""Keys: the ring of the able boxes, and the one at which the keys are."""

from panehouse.boxes import names_of, way_to
from panehouse.errors import NoName


def ring_of(doc, shapes):
    return [name for name in names_of(doc) if shapes[name]["able"]]


def around(names, name):
    # All names in the order in which one comes to them from a name on, that name itself last.
    place = names.index(name)
    return names[place + 1:] + names[:place + 1]


def first_of(names, ring):
    for name in names:
        if name in ring:
            return name
    return None


def next_key(doc, shapes, name):
    way_to(doc, name)
    return first_of(around(names_of(doc), name), ring_of(doc, shapes))


def last_key(doc, shapes, name):
    way_to(doc, name)
    return first_of(around(list(reversed(names_of(doc))), name), ring_of(doc, shapes))


def nearest(names, name):
    # First those behind it, then those ahead of it from it on backwards.
    place = names.index(name)
    return names[place + 1:] + list(reversed(names[:place]))


class Keys:
    def __init__(self, doc, shapes):
        self.names = names_of(doc)
        # The ring alone is kept, as the shapes are the asker's own.
        self.ring = ring_of(doc, shapes)
        self.key = None

    def at(self):
        return self.key

    def to(self, name):
        if not isinstance(name, str) or name not in self.ring:
            raise NoName("no able box of that name")
        self.key = name

    def on(self):
        self.turn(self.ring)

    def back(self):
        self.turn(list(reversed(self.ring)))

    def turn(self, ring):
        if self.key is None:
            self.key = ring[0] if ring else None
        else:
            self.key = around(ring, self.key)[0]

    def changed(self, doc, shapes):
        ring = ring_of(doc, shapes)
        if self.key is not None:
            self.key = first_of([self.key] + nearest(self.names, self.key), ring)
        self.names = names_of(doc)
        self.ring = ring
