"""A search through a row: at each point of it the best choices that come there."""

from linepress.walk import first_place, holds_rows, takes_choice, ways


class Front:
    # At one point of a row: for each state of the text so far the best way there, a tuple (cost, choices).
    # The other ways there are left out for good: what comes behind hangs on the state alone, and costs all the same.
    def __init__(self, steps):
        self.steps = steps
        self.best = {}

    def add(self, state, way):
        # Prices come before one another as Python's tuples do, and so do choices.
        if state not in self.best or way < self.best[state]:
            self.best[state] = way

    def add_all(self, other):
        for state in other.best:
            self.add(state, other.best[state])


def with_choice(front, number):
    chosen = Front(front.steps)
    for state in front.best:
        way = front.best[state]
        chosen.add(state, (way[0], way[1] + (number,)))
    return chosen


def behind_plain(front, piece, place):
    behind = Front(front.steps)
    for state in front.best:
        way = front.best[state]
        reached = front.steps.state_behind(state, way[0], piece, place)
        if reached is not None:
            behind.add(reached[0], (reached[1], way[1]))
    return behind


def behind_holder(front, piece, place):
    behind = Front(front.steps)
    for number, way in enumerate(ways(piece, place)):
        chosen = front
        if takes_choice(piece, place):
            chosen = with_choice(front, number)
        behind.add_all(behind_row(chosen, way[0], way[1]))
    return behind


def behind_row(front, row, place):
    behind = front
    for piece in row:
        if holds_rows(piece):
            behind = behind_holder(behind, piece, place)
        else:
            behind = behind_plain(behind, piece, place)
    return behind


def behind_pieces(front, pieces):
    # Pieces of the row itself, which lie in nothing: so a front can be carried on piece by piece.
    return behind_row(front, pieces, first_place())
