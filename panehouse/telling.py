"""Telling: the change that leads from one document to another."""

from panehouse.boxes import boxes_of, kid_names, need_document


def boxes_by_name(doc):
    return dict([(box[1], box) for box in boxes_of(doc)])


def is_kept(box, boxes):
    return box[1] in boxes and boxes[box[1]][0] == box[0]


def set_entries(boxes, ahead):
    entries = []
    for box in boxes:
        if is_kept(box, ahead) and box[2:4] != ahead[box[1]][2:4]:
            entries.append(("set", box[1], box[2], box[3]))
    return entries


def kids_entries(boxes, ahead):
    entries = []
    for box in boxes:
        names = kid_names(box)
        had = kid_names(ahead[box[1]]) if is_kept(box, ahead) else []
        if names != had:
            entries.append(("kids", box[1], tuple(names)))
    return entries


def change_between(one, other):
    need_document(one)
    need_document(other)
    ahead = boxes_by_name(one)
    behind = boxes_by_name(other)
    boxes = boxes_of(other)
    change = [("gone", box[1]) for box in boxes_of(one) if not is_kept(box, behind)]
    change.extend([("new", box[1], box[0], box[2], box[3]) for box in boxes if not is_kept(box, ahead)])
    change.extend(set_entries(boxes, ahead))
    change.extend(kids_entries(boxes, ahead))
    if other[1] != one[1]:
        change.append(("root", other[1]))
    return change
