"""What each piece does at the place where it is set: all that goes through rows to set them goes by it."""

HOLDERS = ("group", "hang", "either")


class Place:
    # How a row is set: broken or on one line, and how many blanks its new lines begin with.
    def __init__(self, broken, margin):
        self.broken = broken
        self.margin = margin


def first_place():
    return Place(True, 0)


def holds_rows(piece):
    return piece[0] in HOLDERS


def takes_choice(piece, place):
    # Asked by the kind, not by how many ways there are: an either takes its choice however few its rows are.
    return piece[0] == "either" or (piece[0] == "group" and place.broken)


def ways(piece, place):
    # The rows that a piece may set, each with its place; a choice is the number of one of them.
    kind = piece[0]
    if kind == "hang":
        return [(piece[2], Place(place.broken, place.margin + piece[1]))]
    if kind == "either":
        return [(row, place) for row in piece[1]]
    on_one_line = (piece[1], Place(False, place.margin))
    if place.broken:
        return [on_one_line, (piece[1], place)]
    return [on_one_line]


def new_line(blanks):
    return "\n" + " " * blanks


def writing(piece, place, column):
    # What a piece that holds no rows writes at a column; None where it can't be set there.
    kind = piece[0]
    if kind == "word":
        return piece[1]
    if kind == "gap" and not place.broken:
        return piece[1]
    if kind == "stop" and column <= piece[1]:
        return " " * (piece[1] - column)
    if not place.broken:
        return None
    if kind == "stop":
        return new_line(piece[1])
    return new_line(place.margin)


def ends_line(wrote):
    # No piece writes a line feed but ahead of all else that it writes.
    return wrote.startswith("\n")


def column_behind(column, wrote):
    if ends_line(wrote):
        return len(wrote) - 1
    return column + len(wrote)
