"""The roads of a row: for each length that the last line can have, the best choices that come there."""

from linepress.fronts import Front, behind_pieces
from linepress.texts import price
from linepress.walk import column_behind, ends_line, writing


class WithinWidth:
    # The state is the length of the last line so far, the cost is the price of the text so far: (lines, rag).
    def __init__(self, width):
        self.width = width

    def state_behind(self, length, cost, piece, place):
        wrote = writing(piece, place, length)
        if wrote is None:
            return None
        column = column_behind(length, wrote)
        if column > self.width:
            return None
        if ends_line(wrote):
            return (column, (cost[0] + 1, cost[1] + self.rag_of(length)))
        return (column, cost)

    def rag_of(self, length):
        return (self.width - length) * (self.width - length)


def roads_begin(width):
    front = Front(WithinWidth(width))
    cost = price("", width)
    if cost is not None:
        front.add(0, (cost, ()))
    return front


def roads(row, width):
    best = behind_pieces(roads_begin(width), row).best
    return [(length,) + best[length][0] + (best[length][1],) for length in sorted(best)]
