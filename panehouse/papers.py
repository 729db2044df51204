"""Papers: why each box stands as it does."""

from panehouse.boxes import kid_names
from panehouse.laying import Laying, need_page


def copied(rows):
    return [list(row) for row in rows]


def named_lines(box, lines):
    names = kid_names(box)
    return [[names[place] for place in line] for line in lines]


def paper_of(box, laying):
    name = box[1]
    across = laying.across[name]
    # Copies, as a laying may be kept, and papers are the asker's own.
    return (
        laying.needs[name][0],
        laying.needs[name][1],
        laying.naturals[name],
        named_lines(box, across.lines),
        [copied(rounds) for rounds in across.rounds],
        copied(laying.down[name].rounds),
    )


def papers_in(laying):
    return dict([(box[1], paper_of(box, laying)) for box in laying.boxes])


def papers_of(doc, shapes, wide=80, high=24):
    need_page(wide, high)
    return papers_in(Laying(doc, shapes, wide, high))
