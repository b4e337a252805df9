"""What several tests need: rows to ask for, and the document's answers found in other ways than the program's."""

import itertools
import random
import time

from linepress.errors import LineError, NoChoice, NoPiece
from linepress.notation import read
from linepress.setting import set_by
from linepress.texts import price
from linepress.tokens import tokens


# Far more than any row takes, and far less than going through all of its choices would.
SECONDS = 5

KINDS = ("word",) * 5 + ("gap",) * 4 + ("end", "stop", "hang") + ("group",) * 4 + ("either",) * 3


def soon(case, ask, *handed):
    # The answer, which must be there within seconds.
    begin = time.monotonic()
    told = ask(*handed)
    case.assertLess(time.monotonic() - begin, SECONDS, handed)
    return told


def refusal(ask, *handed):
    # What an ask is refused with: the class, and the number where it has one; None where it is answered.
    try:
        ask(*handed)
    except LineError as error:
        return (type(error), error.at if isinstance(error, NoPiece) else None)
    return None


def splits(total, parts):
    if parts == 0:
        return [()] if total == 0 else []
    return [(first,) + rest for first in range(total + 1) for rest in splits(total - first, parts - 1)]


def pieces_of_size(size, leaves):
    # All pieces of just so many tokens over some leaves.
    if size == 1:
        return list(leaves)
    made = []
    for row in rows_of_size(size - 2, leaves):
        made.append(("group", row))
        made.append(("hang", 2, row))
    for count in (2, 3, 4):
        for sizes in splits(size - count - 1, count):
            rows = [rows_of_size(each, leaves) for each in sizes]
            made.extend(("either", chosen) for chosen in itertools.product(*rows))
    return made


def rows_of_size(size, leaves):
    if size < 0:
        return []
    if size == 0:
        return [()]
    return [(piece,) + rest for first in range(1, size + 1)
            for piece in pieces_of_size(first, leaves) for rest in rows_of_size(size - first, leaves)]


def row_by_chance(source, size, deep=4, longest=5, furthest=12):
    # At most so many tokens; a seeded source makes the same rows in each run.
    pieces = []
    left = size
    while left > 0:
        kind = source.choice(KINDS)
        if kind in ("group", "hang", "either") and (deep == 0 or left < 4):
            kind = source.choice(("word", "gap"))
        piece = piece_by_chance(source, kind, left, deep, longest, furthest)
        left -= len(tokens((piece,)))
        pieces.append(piece)
    return tuple(pieces)


def piece_by_chance(source, kind, left, deep, longest, furthest):
    if kind == "word":
        return ("word", "".join(source.choice("abc") for each in range(source.randint(1, longest))))
    if kind == "gap":
        return ("gap", source.choice(("", " ", " ")))
    if kind == "end":
        return ("end",)
    if kind == "stop":
        return ("stop", source.randint(0, furthest))
    inside = source.randint(0, left - 3)
    if kind == "group":
        return ("group", row_by_chance(source, inside, deep - 1, longest, furthest))
    if kind == "hang":
        return ("hang", source.randint(0, 3), row_by_chance(source, inside, deep - 1, longest, furthest))
    count = min(source.randint(2, 4), left - 1)
    each = (left - 1 - count) // count
    return ("either", tuple(row_by_chance(source, source.randint(0, each), deep - 1, longest, furthest)
                            for number in range(count)))


def rows_by_chance(seed, count, size, deep=4, longest=5, furthest=12):
    source = random.Random(seed)
    return [row_by_chance(source, source.randint(size // 2, size), deep, longest, furthest) for each in range(count)]


def deep_row():
    # As deep as a row may be, and with as many tokens as this form has room for: 198.
    row = ()
    for level in range(11):
        row = (("group", row + read("_ 'a _ 'bc { | / } . 'd [ _ ] . 'f _")),)
    return row


def repeated(notation, most=200):
    row = read(notation)
    return row * (most // len(tokens(row)))


def choices_by_shape(row, broken=True):
    # All choices that a row's groups and eithers ask for; ends and stops may still refuse some of them.
    found = [()]
    for piece in row:
        found = [ahead + more for ahead in found for more in choices_of_piece(piece, broken)]
    return found


def choices_of_piece(piece, broken):
    if piece[0] == "hang":
        return choices_by_shape(piece[2], broken)
    if piece[0] == "either":
        return [(number,) + more for number, row in enumerate(piece[1]) for more in choices_by_shape(row, broken)]
    if piece[0] == "group" and broken:
        return [(0,) + more for more in choices_by_shape(piece[1], False)] \
            + [(1,) + more for more in choices_by_shape(piece[1], True)]
    if piece[0] == "group":
        return choices_by_shape(piece[1], False)
    return [()]


def texts_by_choices(row):
    # All choices of a row, each with the text that it sets.
    found = {}
    for choices in choices_by_shape(row):
        try:
            found[choices] = set_by(row, choices)
        except NoChoice:
            pass
    return found


def roads_one_by_one(texts, width):
    # The roads out of all choices of a row and their texts: each is priced, the least is kept.
    best = {}
    for choices, text in texts.items():
        cost = price(text, width)
        if cost is not None:
            length = len(text) - text.rfind("\n") - 1
            best[length] = min(best.get(length, (cost, choices)), (cost, choices))
    return [(length,) + best[length][0] + (best[length][1],) for length in sorted(best)]


def best_one_by_one(texts, width):
    # What is pressed, out of all choices of a row and their texts; None where nothing fits.
    found = [(price(text, width), choices) for choices, text in texts.items() if price(text, width) is not None]
    if not found:
        return None
    choices = min(found)[1]
    return (texts[choices], choices)


class TokenMap:
    # Where the tokens of a row lead: the margin at each, the rows of eithers, what was opened by which.
    def __init__(self, row):
        self.told = tokens(row)
        self.margins = []
        self.starts = {}
        self.opener = {}
        self.done = {}
        opened = []
        margin = 0
        for at, token in enumerate(self.told):
            self.margins.append(margin)
            if token[0] in ("open", "hang", "either"):
                opened.append(at)
                self.starts[at] = [at + 1]
            if token[0] == "hang":
                margin += token[1]
            if token[0] == "or":
                self.opener[at] = opened[-1]
                self.starts[opened[-1]].append(at + 1)
            if token[0] in ("close", "back", "done"):
                self.opener[at] = opened.pop()
                self.done[self.opener[at]] = at
            if token[0] == "back":
                margin -= self.told[self.opener[at]][1]


def set_token_by_token(row, choices):
    # What set_by tells, found by a walk over the tokens with jumps; None where choices are refused.
    where = TokenMap(row)
    left = list(choices)
    lines = [""]
    flat = None
    at = 0
    while at < len(where.told):
        token = where.told[at]
        kind = token[0]
        column = len(lines[-1])
        step = at + 1
        if kind == "word":
            lines[-1] += token[1]
        elif kind == "gap" and flat is not None:
            lines[-1] += token[1]
        elif kind == "stop" and column <= token[1]:
            lines[-1] = lines[-1].ljust(token[1])
        elif kind in ("gap", "end", "stop"):
            if flat is not None:
                return None
            lines.append(" " * (token[1] if kind == "stop" else where.margins[at]))
        elif kind == "either" or kind == "open" and flat is None:
            count = len(where.starts[at]) if kind == "either" else 2
            if not left or left[0] not in range(count):
                return None
            number = left.pop(0)
            if kind == "either":
                step = where.starts[at][number]
            elif number == 0:
                flat = at
        elif kind == "close" and where.opener[at] == flat:
            flat = None
        elif kind == "or":
            step = where.done[where.opener[at]]
        at = step
    return None if left else "\n".join(lines)


class FromBehind:
    # The roads of a row, found from its last token to its first one: for each token, column and group that is set on
    # one line the best that can follow, by the length that the last line comes to.
    def __init__(self, row, width):
        self.where = TokenMap(row)
        self.width = width
        self.known = {}

    def roads(self):
        best = self.best(0, 0, None)
        return [(length, best[length][0] + 1) + best[length][1:] for length in sorted(best)]

    def best(self, at, column, flat):
        if column > self.width:
            return {}
        if at == len(self.where.told):
            return {column: (0, 0, ())}
        key = (at, column, flat)
        if key not in self.known:
            self.known[key] = self.best_of_token(at, column, flat)
        return self.known[key]

    def best_of_token(self, at, column, flat):
        token = self.where.told[at]
        kind = token[0]
        if kind == "word" or kind == "gap" and flat is not None:
            return self.best(at + 1, column + len(token[1]), flat)
        if kind == "stop" and column <= token[1]:
            return self.best(at + 1, token[1], flat)
        if kind in ("gap", "end", "stop"):
            if flat is not None:
                return {}
            return self.new_line(at, column, token[1] if kind == "stop" else self.where.margins[at])
        if kind == "either":
            return self.least([self.best(start, column, flat) for start in self.where.starts[at]])
        if kind == "open" and flat is None:
            return self.least([self.best(at + 1, column, at), self.best(at + 1, column, None)])
        if kind == "or":
            return self.best(self.where.done[self.where.opener[at]], column, flat)
        if kind == "close" and self.where.opener[at] == flat:
            return self.best(at + 1, column, None)
        return self.best(at + 1, column, flat)

    def new_line(self, at, column, blanks):
        rag = (self.width - column) ** 2
        behind = self.best(at + 1, blanks, None)
        return {length: (way[0] + 1, way[1] + rag, way[2]) for length, way in behind.items()}

    def least(self, found):
        best = {}
        for number, ways in enumerate(found):
            for length, way in ways.items():
                chosen = (way[0], way[1], (number,) + way[2])
                best[length] = min(best.get(length, chosen), chosen)
        return best


class ReadFromBehind:
    # The first choices that set a text, found token by token: at each choice the least number behind which the rest of
    # the text can still be set. None where there are none.
    def __init__(self, row, text):
        self.where = TokenMap(row)
        self.text = text
        self.known = {}

    def choices(self):
        return self.first(0, 0, None)

    def first(self, at, position, flat):
        key = (at, position, flat)
        if key not in self.known:
            self.known[key] = self.first_of_token(at, position, flat)
        return self.known[key]

    def first_of_token(self, at, position, flat):
        if at == len(self.where.told):
            return () if position == len(self.text) else None
        token = self.where.told[at]
        kind = token[0]
        column = position - self.text.rfind("\n", 0, position) - 1
        if kind == "word" or kind == "gap" and flat is not None:
            return self.written(at, position, flat, token[1])
        if kind == "stop" and column <= token[1]:
            return self.written(at, position, flat, " " * (token[1] - column))
        if kind in ("gap", "end", "stop"):
            blanks = token[1] if kind == "stop" else self.where.margins[at]
            return None if flat is not None else self.written(at, position, flat, "\n" + " " * blanks)
        if kind == "either":
            return self.least([(start, flat) for start in self.where.starts[at]], position)
        if kind == "open" and flat is None:
            return self.least([(at + 1, at), (at + 1, None)], position)
        if kind == "or":
            return self.first(self.where.done[self.where.opener[at]], position, flat)
        if kind == "close" and self.where.opener[at] == flat:
            return self.first(at + 1, position, None)
        return self.first(at + 1, position, flat)

    def written(self, at, position, flat, wrote):
        if self.text[position:position + len(wrote)] != wrote:
            return None
        return self.first(at + 1, position + len(wrote), flat)

    def least(self, starts, position):
        for number, (start, flat) in enumerate(starts):
            behind = self.first(start, position, flat)
            if behind is not None:
                return (number,) + behind
        return None
