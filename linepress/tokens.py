"""Rows taken apart to tokens, and tokens put together to rows."""

from linepress.errors import NoPiece
from linepress.pieces import DEEPEST, FEWEST_ROWS, MOST_ROWS, MOST_TOKENS

OPENERS = ("open", "hang", "either")
OPENER_OF = {"close": "open", "back": "hang", "or": "either", "done": "either"}


def tokens(row):
    told = []
    for piece in row:
        told.extend(tokens_of_piece(piece))
    return told


def tokens_of_piece(piece):
    kind = piece[0]
    if kind == "group":
        return [("open",)] + tokens(piece[1]) + [("close",)]
    if kind == "hang":
        return [("hang", piece[1])] + tokens(piece[2]) + [("back",)]
    if kind == "either":
        return tokens_of_either(piece[1])
    return [piece]


def tokens_of_either(rows):
    told = [("either",)] + tokens(rows[0])
    for row in rows[1:]:
        told.append(("or",))
        told.extend(tokens(row))
    told.append(("done",))
    return told


class Nest:
    # What one token opened: its rows that are ended, and the pieces of the row that goes on.
    def __init__(self, opener):
        self.opener = opener
        self.ended = []
        self.pieces = []

    def end_row(self):
        self.ended.append(tuple(self.pieces))
        self.pieces = []

    def can_end_by(self, kind):
        if self.opener[0] != OPENER_OF[kind]:
            return False
        count = len(self.ended) + 1
        if kind == "or":
            return count < MOST_ROWS
        if kind == "done":
            return count >= FEWEST_ROWS
        return True

    def as_piece(self):
        kind = self.opener[0]
        row = tuple(self.pieces)
        if kind == "open":
            return ("group", row)
        if kind == "hang":
            return ("hang", self.opener[1], row)
        return ("either", tuple(self.ended + [row]))


class Builder:
    def __init__(self):
        self.taken = 0
        # The first nest is the row itself: no token ends it, so it lies there always.
        self.nests = [Nest(("row",))]

    def can_stand(self, kind):
        if self.taken >= MOST_TOKENS:
            return False
        if kind in OPENERS:
            return len(self.nests) - 1 < DEEPEST
        if kind in OPENER_OF:
            return self.nests[-1].can_end_by(kind)
        return True

    def add(self, token):
        kind = token[0]
        if not self.can_stand(kind):
            raise NoPiece(self.taken + 1)
        self.taken = self.taken + 1
        if kind in OPENERS:
            self.nests.append(Nest(token))
        elif kind == "or":
            self.nests[-1].end_row()
        elif kind in OPENER_OF:
            nest = self.nests.pop()
            self.nests[-1].pieces.append(nest.as_piece())
        else:
            self.nests[-1].pieces.append(token)

    def row_so_far(self):
        # Up to the last token that left nothing open.
        return tuple(self.nests[0].pieces)

    def whole_row(self):
        if len(self.nests) > 1:
            raise NoPiece(self.taken + 1)
        return self.row_so_far()


def row_of(tokens):
    builder = Builder()
    for token in tokens:
        builder.add(token)
    return builder.whole_row()
