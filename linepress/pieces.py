"""Rows of pieces: their shapes, their depth and their words."""

from linepress.texts import is_word

FURTHEST_STOP = 40
WIDEST_HANG = 12
FEWEST_ROWS = 2
MOST_ROWS = 4
DEEPEST = 12
MOST_TOKENS = 200


def is_number_up_to(thing, most):
    # A truth is an int to Python, but no whole number here.
    if not isinstance(thing, int) or isinstance(thing, bool):
        return False
    return 0 <= thing and thing <= most


def is_content(kind, thing):
    if kind == "word":
        return is_word(thing)
    if kind == "gap":
        return thing in ("", " ")
    if kind == "stop":
        return is_number_up_to(thing, FURTHEST_STOP)
    if kind == "group":
        return isinstance(thing, tuple)
    if kind == "either":
        return isinstance(thing, tuple) and FEWEST_ROWS <= len(thing) and len(thing) <= MOST_ROWS
    return False


def is_piece_outside(thing):
    # What the rows within it hold is left out: is_row looks at these, one level after the other.
    if not isinstance(thing, tuple) or len(thing) == 0:
        return False
    kind = thing[0]
    if kind == "end":
        return len(thing) == 1
    if kind == "hang":
        return len(thing) == 3 and is_number_up_to(thing[1], WIDEST_HANG)
    return len(thing) == 2 and is_content(kind, thing[1])


def is_row_outside(thing):
    return isinstance(thing, tuple) and all([is_piece_outside(piece) for piece in thing])


def rows_in(piece):
    kind = piece[0]
    if kind == "group":
        return [piece[1]]
    if kind == "hang":
        return [piece[2]]
    if kind == "either":
        return list(piece[1])
    return []


def rows_below(rows):
    below = []
    for row in rows:
        for piece in row:
            below.extend(rows_in(piece))
    return below


def is_row(thing):
    rows = [thing]
    deep = 0
    count = 0
    while rows:
        # The bounds are asked at each level, so that a thing far beyond them is not gone through whole.
        if deep > DEEPEST or count > MOST_TOKENS:
            return False
        if not all([is_row_outside(row) for row in rows]):
            return False
        below = rows_below(rows)
        # A piece has one token more than it has rows: one ahead of each of them, and one at its end.
        count = count + sum([len(row) for row in rows]) + len(below)
        deep = deep + 1
        rows = below
    return count <= MOST_TOKENS


def depth(row):
    deep = 0
    rows = rows_below([row])
    while rows:
        deep = deep + 1
        rows = rows_below(rows)
    return deep


def words_of(row):
    words = []
    for piece in row:
        if piece[0] == "word":
            words.append(piece[1])
        for inner in rows_in(piece):
            words.extend(words_of(inner))
    return words
