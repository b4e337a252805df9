"""The widths of a row: the narrowest one, and those from which on it takes fewer lines."""

from linepress.errors import NoRoom
from linepress.roads import roads

LEAST_WIDTH = 1
GREATEST_WIDTH = 40


def narrowest(row):
    for width in range(LEAST_WIDTH, GREATEST_WIDTH + 1):
        if roads(row, width):
            return width
    raise NoRoom("no choices set the row within any width")


def fewest_lines(row, width):
    return min([road[1] for road in roads(row, width)])


def stairs(row):
    told = []
    for width in range(narrowest(row), GREATEST_WIDTH + 1):
        lines = fewest_lines(row, width)
        # Lines never rise with the width, so the last stair has those of the width that is less by one.
        if not told or lines < told[-1][1]:
            told.append((width, lines))
    return told
