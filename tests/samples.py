"""Documents, wrong things and a share told another way, for several tests."""

from unittest import mock


class Odd:
    """Calls itself like anything."""

    def __eq__(self, other):
        return True

    __hash__ = None


# Nothing of these is a number, a list, a tuple, or a name of a box.
STRANGE = [None, True, False, -1, 1.0, 2.5, 1j, "", "1", "a b", b"a", {}, {"a": 1}, {1}, object(), int, len,
           range(3), Odd(), mock.ANY]


def not_numbers():
    return STRANGE + [[], [1], (), (1,), float("nan"), float("inf"), -(10 ** 50)]


def blank(name, tags=()):
    return ("blank", name, tags, None, ())


def words(name, text, tags=()):
    return ("words", name, tags, text, ())


def row(name, *kids):
    return ("row", name, (), None, kids)


def house():
    """A document with all kinds; its order is a b c d e f g h i j."""
    d = words("d", "Some words here", ("big", "red"))
    c = ("pile", "c", (), None, (d, blank("e")))
    b = ("column", "b", ("left",), None, (c, blank("f")))
    g = ("grid", "g", (), 3, (("flow", "h", (), None, (blank("i"),)),))
    return ("row", "a", (), None, (b, g, words("j", "")))


def chain(deep):
    """A document so many deep."""
    doc = blank("n" + str(deep))
    for at in range(deep - 1, 0, -1):
        doc = ("column", "n" + str(at), (), None, (doc,))
    return doc


def crowd(many):
    """A document of so many boxes, 3 deep, of at most 1 + 12 * 13 boxes."""
    left = many - 1
    groups = []
    while left > 0:
        mine = min(left, 13)
        at = len(groups)
        groups.append(row(f"g{at}", *[blank(f"g{at}k{k}") for k in range(mine - 1)]))
        left -= mine
    return row("root", *groups)


def share_by_hand(total, weights):
    """The share told another way: the cells that are left are given one by one."""
    whole = sum(weights)
    if whole == 0:
        return [0] * len(weights)
    shares = []
    rests = []
    for weight in weights:
        share, rest = divmod(total * weight, whole)
        shares.append(share)
        rests.append(rest)
    while sum(shares) < total:
        place = rests.index(max(rests))
        shares[place] += 1
        rests[place] = -1
    return shares
