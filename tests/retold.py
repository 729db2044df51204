"""What the document says of fills and of laying, told another way, to hold the program against."""

from samples import share_by_hand


def rounds_by_hand(total, parts):
    """The rounds told another way: with the sizes kept, and each step written out."""
    sizes = [part[0] for part in parts]
    if sum(sizes) > total:
        above = [part[0] - part[1] for part in parts]
        taken = share_by_hand(min(sum(sizes) - total, sum(above)), above)
        return [taken] if any(taken) else []
    rounds = []
    while True:
        weights = [part[3] if size < part[2] else 0 for part, size in zip(parts, sizes)]
        shares = share_by_hand(total - sum(sizes), weights)
        given = [min(share, part[2] - size) for share, part, size in zip(shares, parts, sizes)]
        if not any(given):
            return rounds
        rounds.append(given)
        sizes = [size + cells for size, cells in zip(sizes, given)]


def sizes_by_hand(total, parts):
    sizes = [part[0] for part in parts]
    sign = -1 if sum(sizes) > total else 1
    for cells in rounds_by_hand(total, parts):
        sizes = [size + sign * n for size, n in zip(sizes, cells)]
    return sizes


def bounded(n, least, most):
    n = most if n > most else n
    return least if n < least else n


def rows_by_hand(text, wide):
    """The rows told another way: of all heads of the words that are left the longest that fits."""
    left = text.split()
    rows = []
    while left:
        many = max([1] + [n for n in range(1, len(left) + 1) if len(" ".join(left[:n])) <= wide])
        rows.append(" ".join(left[:many]))
        left = left[many:]
    return rows


class Laid:
    """A box laid out, told another way: each box an object that lays its kids."""

    def __init__(self, box, shapes):
        self.kind, self.name, self.tags, self.more, kids = box
        self.shape = shapes[self.name]
        self.pad, self.gap = self.shape["pad"], self.shape["gap"]
        self.kids = [Laid(kid, shapes) for kid in kids]
        self.least, self.hold = self.needs()

    def all(self):
        return [self] + [one for kid in self.kids for one in kid.all()]

    def across_bounds(self, n):
        return bounded(n, self.shape["leastw"], self.shape["mostw"])

    def down_bounds(self, n):
        return bounded(n, self.shape["leasth"], self.shape["mosth"])

    def needs(self):
        leasts = [kid.least for kid in self.kids] or [0]
        holds = [kid.hold for kid in self.kids] or [0]
        between = self.gap * (len(leasts) - 1)
        columns = self.more if self.kind == "grid" else 1
        beside = (columns - 1) * self.gap
        inner = {"blank": lambda: (0, 0),
                 "words": lambda: (max([0] + [len(word) for word in self.more.split()]), len(self.more)),
                 "row": lambda: (sum(leasts) + between, sum(holds) + between),
                 "flow": lambda: (max(leasts), sum(holds) + between),
                 "column": lambda: (max(leasts), max(holds)),
                 "pile": lambda: (max(leasts), max(holds)),
                 "grid": lambda: (columns * max(leasts) + beside, columns * max(holds) + beside)}[self.kind]()
        if self.shape["wide"][0] == "fixed":
            return (self.across_bounds(self.shape["wide"][1]),) * 2
        return tuple(self.across_bounds(n + self.pad + self.pad) for n in inner)

    def asked(self, wide):
        how = self.shape["wide"]
        if how[0] == "fixed":
            wide = how[1]
        if how[0] == "hold":
            wide = min(self.hold, wide)
            wide = self.least if wide < self.least else wide
        return self.across_bounds(wide)

    def begin(self, inside):
        return self.least if self.shape["wide"][0] == "share" else self.asked(inside)

    def part(self, begin):
        how = self.shape["wide"]
        if how[0] == "fixed":
            return (self.asked(0),) * 3 + (0,)
        if how[0] == "hold":
            return (begin, self.least, begin, 0)
        return (self.least, self.least, max(self.shape["mostw"], self.least), how[1])

    def lay_across(self, wide):
        self.wide = wide
        inside = max(wide - 2 * self.pad, 0)
        self.lines, self.across, self.cells, widths = [], [], [], []
        if self.kind == "grid":
            total = max(inside - (self.more - 1) * self.gap, 0)
            self.cells = [total // self.more + (1 if at < total % self.more else 0) for at in range(self.more)]
        if self.kids:
            widths = {"row": self.row_widths, "flow": self.flow_widths, "grid": self.grid_widths,
                      "column": self.stacked_widths, "pile": self.stacked_widths}[self.kind](inside)
        for kid, size in zip(self.kids, widths):
            kid.lay_across(size)
        self.widths = widths
        self.natural = self.own_natural(inside)

    def fill_line(self, parts, inside):
        total = max(inside - self.gap * (len(parts) - 1), 0)
        self.across.append(rounds_by_hand(total, parts))
        return sizes_by_hand(total, parts)

    def row_widths(self, inside):
        self.lines = [[at for at, kid in enumerate(self.kids)]]
        return self.fill_line([kid.part(kid.hold) for kid in self.kids], inside)

    def flow_widths(self, inside):
        line = []
        for at, kid in enumerate(self.kids):
            begins = [self.kids[place].begin(inside) for place in line + [at]]
            if line and sum(begins) + self.gap * (len(begins) - 1) > inside:
                self.lines.append(line)
                line = []
            line = line + [at]
        self.lines.append(line)
        widths = []
        for line in self.lines:
            widths += self.fill_line([self.kids[at].part(self.kids[at].begin(inside)) for at in line], inside)
        return widths

    def grid_widths(self, inside):
        self.lines = []
        widths = []
        for at, kid in enumerate(self.kids):
            if at % self.more == 0:
                self.lines.append([])
            self.lines[-1].append(at)
            cell = self.cells[at % self.more]
            widths.append(min(kid.asked(cell), cell))
        return widths

    def stacked_widths(self, inside):
        places = list(range(len(self.kids)))
        self.lines = [places] if self.kind == "pile" else [[at] for at in places]
        return [kid.asked(inside) for kid in self.kids]

    def own_natural(self, inside):
        lines = [max(self.kids[at].natural for at in line) for line in self.lines]
        inner = len(rows_by_hand(self.more, inside)) if self.kind == "words" else sum(lines)
        if len(lines) > 1:
            inner += self.gap * (len(lines) - 1)
        how = self.shape["high"]
        return self.down_bounds(how[1] if how[0] == "fixed" else inner + 2 * self.pad)

    def down_part(self):
        how = self.shape["high"]
        if how[0] == "share":
            return (self.natural, self.natural, max(self.natural, self.shape["mosth"]), how[1])
        return (self.natural, self.natural, self.natural, 0)

    def lay_down(self, x, y, high):
        self.x, self.y, self.high = x, y, high
        inside = max(high - 2 * self.pad, 0)
        self.down = []
        if self.kind == "column":
            total = max(inside - self.gap * (len(self.kids) - 1), 0) if self.kids else 0
            parts = [kid.down_part() for kid in self.kids]
            self.down = rounds_by_hand(total, parts)
            self.highs = sizes_by_hand(total, parts)
        elif self.kind in ("row", "pile"):
            self.highs = [inside] * len(self.lines)
        else:
            self.highs = [max(self.kids[at].natural for at in line) for line in self.lines]
        top = y + self.pad
        for line, line_high in zip(self.lines, self.highs):
            left = x + self.pad
            for nth, at in enumerate(line):
                kid = self.kids[at]
                tall = kid.natural
                if self.kind == "column":
                    tall = line_high
                elif kid.shape["high"][0] == "share":
                    tall = kid.down_bounds(line_high)
                kid.lay_down(left, top, tall)
                if self.kind != "pile":
                    left += self.gap + (self.cells[nth] if self.kind == "grid" else kid.wide)
            top += line_high + self.gap

    def paper(self):
        lines = [[self.kids[at].name for at in line] for line in self.lines]
        return (self.least, self.hold, self.natural, lines, self.across, self.down)


def lay_by_hand(doc, shapes, wide=80, high=24):
    """The root as a Laid, with all within laid out on a page."""
    root = Laid(doc, shapes)
    root.lay_across(root.asked(wide))
    share = root.shape["high"][0] == "share"
    root.lay_down(0, 0, root.down_bounds(high) if share else root.natural)
    return root


class Stub(Laid):
    """A kid as its paper tells it: it only keeps where and how large it is put."""

    def __init__(self, box, shapes, paper):
        self.name, self.shape, self.kids = box[1], shapes[box[1]], []
        self.least, self.hold, self.natural = paper[:3]

    def lay_across(self, wide):
        self.wide = wide

    def lay_down(self, x, y, high):
        self.x, self.y, self.high = x, y, high


class Held(Laid):
    """A box with stubs as kids."""

    def __init__(self, box, shapes, papers):
        super().__init__(box[:4] + ((),), shapes)
        self.kids = [Stub(kid, shapes, papers[kid[1]]) for kid in box[4]]
        self.least, self.hold = self.needs()

    def fill_line(self, parts, inside):
        if not all(part[1] <= part[0] <= part[2] for part in parts):
            raise ArithmeticError("parts that can't be filled")
        return super().fill_line(parts, inside)


def is_whole(thing, least, most):
    return type(thing) is int and least <= thing <= most


def has_spot(thing):
    if type(thing) is not tuple or len(thing) != 4 or not all(is_whole(n, 0, 400) for n in thing[2:]):
        return False
    return all(type(n) is int for n in thing[:2])


def has_paper(thing):
    if type(thing) is not tuple or [type(part) for part in thing] != [int] * 3 + [list] * 3:
        return False
    return all(is_whole(n, 0, 400) for n in thing[:3]) and thing[0] <= thing[1]


def fails_by_hand(box, shapes, layout, papers):
    """Whether a box fails, told another way: it is laid with stubs in its kids' place; like texts are like things."""
    for name in [box[1]] + [kid[1] for kid in box[4]]:
        if not has_spot(layout.get(name)) or not has_paper(papers.get(name)):
            return True
    x, y, wide, high = layout[box[1]]
    held = Held(box, shapes, papers)
    try:
        held.lay_across(wide)
    except ArithmeticError:
        return True
    held.lay_down(x, y, high)
    if [(kid.x, kid.y, kid.wide, kid.high) for kid in held.kids] != [layout[kid.name] for kid in held.kids]:
        return True
    return repr(held.paper()) != repr(papers[box[1]])


def root_fails_by_hand(doc, shapes, wide, high, layout, papers):
    if fails_by_hand(doc, shapes, layout, papers):
        return True
    root = Held(doc, shapes, papers)
    natural = papers[doc[1]][2]
    tall = root.down_bounds(high) if root.shape["high"][0] == "share" else natural
    return layout[doc[1]] != (0, 0, root.asked(wide), tall)


def failing_by_hand(doc, shapes, wide, high, layout, papers):
    boxes = Laid(doc, shapes).all()
    whole = {}

    def gather(box):
        whole[box[1]] = box
        for kid in box[4]:
            gather(kid)
    gather(doc)
    names = [one.name for one in boxes[1:] if fails_by_hand(whole[one.name], shapes, layout, papers)]
    return [doc[1]] * root_fails_by_hand(doc, shapes, wide, high, layout, papers) + names


def taken_by_hand(doc, shapes, wide, high):
    """Of each box, in order, a dict of what its laying takes, by the words that are told."""
    taken = {}
    for one in lay_by_hand(doc, shapes, wide, high).all():
        kids = one.kids
        taken[one.name] = {"box": (one.kind, one.more, [kid.name for kid in kids]),
                           "shape": [shapes[name] for name in [one.name] + [kid.name for kid in kids]],
                           "kids": [(kid.least, kid.hold, kid.natural) for kid in kids],
                           "wide": one.wide, "high": one.high}
    return taken


def laid_by_hand(ahead, behind):
    """What is told as laid anew between two of taken_by_hand."""
    told = []
    for name, took in behind.items():
        words = ("new",)
        if name in ahead:
            words = tuple(word for word in took if took[word] != ahead[name][word])
        told += [(name, words)] if words else []
    return told


def cells_in(wide, high, spot):
    """The cells of a page that are in a rectangle."""
    x, y, across, down = spot
    return {(left, top) for left in range(wide) if x <= left < x + across
            for top in range(high) if y <= top < y + down}


def ways_by_hand(box, about=()):
    """Each box with those about it, the root first, in order."""
    way = about + (box,)
    return [way] + [inner for kid in box[4] for inner in ways_by_hand(kid, way)]


def seen_by_hand(doc, shapes, layout, wide, high):
    """Of each name, in order, the set of the cells that are seen."""
    seen = {}
    for way in ways_by_hand(doc):
        cells = cells_in(wide, high, layout[way[-1][1]])
        for about in way[:-1]:
            if shapes[about[1]]["over"] is False:
                cells &= cells_in(wide, high, layout[about[1]])
        seen[way[-1][1]] = cells
    return seen


def drawn_by_hand(doc, shapes, layout, wide, high):
    """The drawing told another way: cell by cell."""
    signs = {cell: " " for cell in cells_in(wide, high, (0, 0, wide, high))}
    seen = seen_by_hand(doc, shapes, layout, wide, high)
    for way in ways_by_hand(doc):
        kind, name, tags, more, kids = way[-1]
        shape = shapes[name]
        if shape["fill"]:
            signs.update({cell: shape["fill"] for cell in seen[name]})
        if kind == "words":
            x, y, across, down = layout[name]
            for nth, one in enumerate(rows_by_hand(more, max(across - 2 * shape["pad"], 0))):
                for at, sign in enumerate(one):
                    cell = (x + shape["pad"] + at, y + shape["pad"] + nth)
                    ink = {"as": sign, "great": sign.upper(), "small": sign.lower()}[shape["ink"]]
                    signs.update({cell: ink} if cell in seen[name] else {})
    return ["".join(signs[x, y] for x in range(wide)) for y in range(high)]
