"""Rows set by choices, and the order of choices."""

from linepress.errors import NoChoice
from linepress.walk import column_behind, first_place, holds_rows, takes_choice, ways, writing


class Setter:
    def __init__(self, choices):
        self.choices = choices
        self.used = 0
        self.column = 0
        self.parts = []

    def choice_below(self, count):
        if self.used >= len(self.choices):
            raise NoChoice("a choice is wanted, and none is left")
        number = self.choices[self.used]
        if number < 0 or number >= count:
            raise NoChoice(f"choice {number} is not one of {count}")
        self.used = self.used + 1
        return number

    def set_plain(self, piece, place):
        wrote = writing(piece, place, self.column)
        if wrote is None:
            raise NoChoice("a new line is wanted in what is set on one line")
        self.parts.append(wrote)
        self.column = column_behind(self.column, wrote)

    def set_holder(self, piece, place):
        found = ways(piece, place)
        number = 0
        if takes_choice(piece, place):
            number = self.choice_below(len(found))
        way = found[number]
        self.set_row(way[0], way[1])

    def set_row(self, row, place):
        for piece in row:
            if holds_rows(piece):
                self.set_holder(piece, place)
            else:
                self.set_plain(piece, place)

    def whole_text(self):
        if self.used < len(self.choices):
            raise NoChoice("choices are left at the end")
        return "".join(self.parts)


def set_by(row, choices):
    setter = Setter(choices)
    setter.set_row(row, first_place())
    return setter.whole_text()


def earlier(one, other):
    # Python's own order of tuples: the first unlike place decides.
    return one < other
