"""What a number and a name are, and how a number is written, for all files."""

MOST_NAME_SIGNS = 8
LETTERS = "abcdefghijklmnopqrstuvwxyz"
NAME_SIGNS = "abcdefghijklmnopqrstuvwxyz0123456789"
FIGURES = "0123456789"
MOST_FIGURES = 4000


def is_number(thing):
    # Python counts True and False among the whole numbers; the document doesn't.
    return isinstance(thing, int) and not isinstance(thing, bool) and thing >= 0


def is_within(thing, least, most):
    return is_number(thing) and least <= thing <= most


def is_number_list(thing):
    return isinstance(thing, list) and all([is_number(n) for n in thing])


def has_only(text, signs):
    return all([sign in signs for sign in text])


def is_name(thing):
    if not isinstance(thing, str) or not 1 <= len(thing) <= MOST_NAME_SIGNS:
        return False
    return thing[0] in LETTERS and has_only(thing, NAME_SIGNS)


def number_in(text):
    # Python reads more than the document writes: blanks, signs, other figures, noughts ahead.
    if not 1 <= len(text) <= MOST_FIGURES or not has_only(text, FIGURES):
        return None
    if text[0] == "0" and text != "0":
        return None
    return int(text)
