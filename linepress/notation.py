"""Rows written as a notation, and read again."""

from linepress.errors import NoPiece
from linepress.pieces import FURTHEST_STOP, WIDEST_HANG
from linepress.texts import is_word
from linepress.tokens import Builder, tokens

# The tokens that are always written alike; each other one is written as a sign and what it holds.
SIGNS = {
    "_": ("gap", " "),
    ".": ("gap", ""),
    "/": ("end",),
    "[": ("open",),
    "]": ("close",),
    "<": ("back",),
    "{": ("either",),
    "|": ("or",),
    "}": ("done",),
}
WORD_SIGN = "'"
STOP_SIGN = "@"
HANG_SIGN = ">"


def sign_of(token):
    return [sign for sign in SIGNS if SIGNS[sign] == token][0]


def written_token(token):
    kind = token[0]
    if kind == "word":
        return WORD_SIGN + token[1]
    if kind == "stop":
        return STOP_SIGN + str(token[1])
    if kind == "hang":
        return HANG_SIGN + str(token[1])
    return sign_of(token)


def written(row):
    return " ".join([written_token(token) for token in tokens(row)])


def number_token(kind, figures, most):
    # Not int: it takes signs, blanks, noughts ahead and figures of other scripts, too.
    for number in range(most + 1):
        if figures == str(number):
            return (kind, number)
    return None


def token_of(part):
    # None where no token of any row is written so.
    if part in SIGNS:
        return SIGNS[part]
    if part.startswith(STOP_SIGN):
        return number_token("stop", part[1:], FURTHEST_STOP)
    if part.startswith(HANG_SIGN):
        return number_token("hang", part[1:], WIDEST_HANG)
    if part.startswith(WORD_SIGN) and is_word(part[1:]):
        return ("word", part[1:])
    return None


def parts_of(text):
    # The empty text has no tokens, though a split would tell an empty one.
    if text == "":
        return []
    return text.split(" ")


def add_written(builder, part):
    token = token_of(part)
    if token is None:
        raise NoPiece(builder.taken + 1)
    builder.add(token)


def read(text):
    builder = Builder()
    for part in parts_of(text):
        add_written(builder, part)
    return builder.whole_row()
