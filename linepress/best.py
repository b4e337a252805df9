"""Rows pressed to a width: the best way there is to set them."""

from linepress.errors import NoRoom
from linepress.fronts import behind_pieces
from linepress.roads import roads_begin
from linepress.setting import set_by


def best_choices(front):
    if not front.best:
        raise NoRoom("no choices set the row within the width")
    return min(front.best.values())[1]


def pressed(row, width):
    choices = best_choices(behind_pieces(roads_begin(width), row))
    return (set_by(row, choices), choices)
