"""The roads of a row: for each length that the last line can have, the best choices that come there."""

from linepress.setting import earlier
from linepress.texts import cheaper
from linepress.walk import column_behind, ends_line, first_place, holds_rows, takes_choice, ways, writing


def comes_before(one, other):
    one_price = one[:2]
    other_price = other[:2]
    if one_price != other_price:
        return cheaper(one_price, other_price)
    return earlier(one[2], other[2])


class Front:
    # At one point of a row: for each length of the last line so far the best (lines, rag, choices) that come there.
    # The others are left out for good: what comes behind hangs on the length alone, and costs all of them the same.
    def __init__(self, width):
        self.width = width
        self.best = {}

    def add(self, length, way):
        if length > self.width:
            return
        if length not in self.best or comes_before(way, self.best[length]):
            self.best[length] = way

    def add_all(self, other):
        for length in other.best:
            self.add(length, other.best[length])

    def rag_of(self, length):
        return (self.width - length) * (self.width - length)


def first_front(width):
    front = Front(width)
    front.add(0, (1, 0, ()))
    return front


def with_choice(front, number):
    chosen = Front(front.width)
    for length in front.best:
        way = front.best[length]
        chosen.add(length, (way[0], way[1], way[2] + (number,)))
    return chosen


def behind_plain(front, piece, place):
    behind = Front(front.width)
    for length in front.best:
        wrote = writing(piece, place, length)
        if wrote is None:
            continue
        way = front.best[length]
        if ends_line(wrote):
            way = (way[0] + 1, way[1] + front.rag_of(length), way[2])
        behind.add(column_behind(length, wrote), way)
    return behind


def behind_holder(front, piece, place):
    behind = Front(front.width)
    for number, way in enumerate(ways(piece, place)):
        chosen = front
        if takes_choice(piece, place):
            chosen = with_choice(front, number)
        behind.add_all(behind_row(chosen, way[0], way[1]))
    return behind


def behind_row(front, row, place):
    behind = front
    for piece in row:
        if holds_rows(piece):
            behind = behind_holder(behind, piece, place)
        else:
            behind = behind_plain(behind, piece, place)
    return behind


def roads(row, width):
    best = behind_row(first_front(width), row, first_place()).best
    return [(length,) + best[length] for length in sorted(best)]
