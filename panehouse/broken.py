"""Words broken into rows, and numbers kept within bounds."""


def limited(n, least, most):
    return max(least, min(n, most))


def broken(text, wide):
    rows = []
    if text == "":
        return rows
    for word in text.split(" "):
        if rows and len(rows[-1]) + 1 + len(word) <= wide:
            rows[-1] = rows[-1] + " " + word
        else:
            rows.append(word)
    return rows
