"""Fills: parts that grow or shrink till they fill a total."""

from panehouse.errors import NoShare
from panehouse.plain import is_number_list
from panehouse.shares import need_few, need_total, share_out

MOST_PART = 9999


def is_part(thing):
    if not isinstance(thing, tuple) or len(thing) != 4:
        return False
    if not is_number_list(list(thing)) or max(thing) > MOST_PART:
        return False
    return thing[1] <= thing[0] <= thing[2]


def need_parts(parts):
    need_few(parts)
    if not all([is_part(part) for part in parts]):
        raise NoShare("a part is none")


def begins_of(parts):
    return [begin for begin, least, most, weight in parts]


def given_once(lacking, parts, rooms):
    weights = [part[3] if room > 0 else 0 for part, room in zip(parts, rooms)]
    shares = share_out(lacking, weights)
    return [min(share, room) for share, room in zip(shares, rooms)]


def given_rounds(lacking, parts):
    rooms = [most - begin for begin, least, most, weight in parts]
    rounds = []
    while lacking > 0:
        given = given_once(lacking, parts, rooms)
        # Nobody of a weight has room: the rest stays.
        if sum(given) == 0:
            break
        rounds.append(given)
        rooms = [room - cells for room, cells in zip(rooms, given)]
        lacking = lacking - sum(given)
    return rounds


def taken_rounds(too_much, parts):
    above = [begin - least for begin, least, most, weight in parts]
    taken = min(too_much, sum(above))
    if taken == 0:
        return []
    # One round is enough: by what each has above its least, nobody loses more than that.
    return [share_out(taken, above)]


def rounds_till(total, parts):
    begun = sum(begins_of(parts))
    if begun > total:
        return taken_rounds(begun - total, parts)
    return given_rounds(total - begun, parts)


def fill_rounds(total, parts):
    need_total(total)
    need_parts(parts)
    return rounds_till(total, parts)


def sizes_behind(total, parts, rounds):
    sizes = begins_of(parts)
    sign = -1 if sum(sizes) > total else 1
    for cells in rounds:
        sizes = [size + sign * n for size, n in zip(sizes, cells)]
    return sizes


def fill_sizes(total, parts):
    return sizes_behind(total, parts, fill_rounds(total, parts))


def is_row_list(thing):
    return isinstance(thing, list) and all([is_number_list(row) for row in thing])


def is_fill(total, parts, sizes, rows):
    rounds = fill_rounds(total, parts)
    # Like numbers aren't enough: [True] == [1] for Python.
    if not is_number_list(sizes) or not is_row_list(rows):
        return False
    return rows == rounds and sizes == sizes_behind(total, parts, rounds)
