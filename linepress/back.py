"""Texts read back to the first choices that set them."""

from linepress.fronts import Front, behind_pieces
from linepress.texts import lines_of
from linepress.walk import column_behind, writing


class AlongText:
    # The state is how many signs of the text are written, and the column there; nothing costs anything.
    def __init__(self, text):
        self.text = text

    def state_behind(self, state, cost, piece, place):
        wrote = writing(piece, place, state[1])
        if wrote is None or not self.text.startswith(wrote, state[0]):
            return None
        return ((state[0] + len(wrote), column_behind(state[1], wrote)), cost)


def choices_of(row, text):
    front = Front(AlongText(text))
    front.add((0, 0), ((), ()))
    best = behind_pieces(front, row).best
    last_state = (len(text), len(lines_of(text)[-1]))
    if last_state not in best:
        return None
    return best[last_state][1]
