"""Shares: a total shared out by weights, to the last cell."""

from panehouse.errors import NoShare
from panehouse.plain import is_number, is_number_list

MOST_THINGS = 60


def need_total(total):
    if not is_number(total):
        raise NoShare("the total is no number")


def need_few(things):
    if not isinstance(things, (list, tuple)):
        raise NoShare("neither a list nor a tuple")
    if len(things) > MOST_THINGS:
        raise NoShare("more than 60")


def need_weights(weights):
    need_few(weights)
    if not is_number_list(list(weights)):
        raise NoShare("a weight is no number")


def share_out(total, weights):
    need_total(total)
    need_weights(weights)
    whole = sum(weights)
    if whole == 0:
        return [0 for weight in weights]
    shares = [total * weight // whole for weight in weights]
    rests = [total * weight % whole for weight in weights]
    # sorted leaves like ones in their order, so of like rests the first comes first.
    places = sorted(range(len(weights)), key=lambda place: -rests[place])
    for place in places[:total - sum(shares)]:
        shares[place] = shares[place] + 1
    return shares


def is_share(total, weights, row):
    shares = share_out(total, weights)
    # Like numbers aren't enough: [True] == [1] for Python.
    return is_number_list(row) and row == shares
