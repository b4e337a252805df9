"""A press: it takes a notation as its signs come, and tells lines as soon as they stand."""

from linepress.best import best_choices
from linepress.errors import NoPiece, NoRoom
from linepress.fronts import behind_pieces
from linepress.notation import add_written, read
from linepress.roads import roads_begin
from linepress.setting import set_by
from linepress.texts import lines_of
from linepress.tokens import Builder


def common_beginning(one, other):
    count = 0
    for pair in zip(one, other):
        if pair[0] != pair[1]:
            break
        count = count + 1
    return one[:count]


def common_lines(texts):
    # Whole lines alone, so the last line of each text is left out: no line feed stands behind it.
    common = lines_of(texts[0])[:-1]
    for text in texts[1:]:
        common = common_beginning(common, lines_of(text)[:-1])
    return "".join([line + "\n" for line in common])


class Press:
    def __init__(self, width):
        self.signs = ""
        self.builder = Builder()
        # The row up to the last whole token that leaves nothing open, and the front behind it.
        self.row = ()
        self.front = roads_begin(width)
        self.told = 0
        self.no_piece_at = None
        self.no_room = False

    def take(self, part):
        self.refuse_as_before()
        self.signs = self.signs + part
        count = len(self.row)
        try:
            self.add_whole_tokens()
        except NoPiece as refusal:
            self.no_piece_at = refusal.at
        except NoRoom:
            self.no_room = True
        self.refuse_as_before()
        # To set all roads is the dearest step, and most parts end within a token: so they are spared it.
        if len(self.row) == count:
            return ""
        return self.tell_lines()

    def rest(self):
        self.refuse_as_before()
        row = read(self.signs)
        return set_by(row, best_choices(self.front_behind(row)))[self.told:]

    def refuse_as_before(self):
        if self.no_piece_at is not None:
            raise NoPiece(self.no_piece_at)
        if self.no_room:
            raise NoRoom("what was taken has no roads within the width")

    def add_whole_tokens(self):
        # What stands behind the last blank is no whole token yet.
        for part in self.signs.split(" ")[self.builder.taken:-1]:
            add_written(self.builder, part)
            row = self.builder.row_so_far()
            self.front = self.front_behind(row)
            self.row = row
            # Asked at each token: the first refusal counts, and a later token may be refused in another way.
            if not self.front.best:
                raise NoRoom("the row up to here has no roads within the width")

    def front_behind(self, row):
        # The row begins with the pieces that the front is behind already.
        return behind_pieces(self.front, row[len(self.row):])

    def tell_lines(self):
        lines = common_lines([set_by(self.row, way[1]) for way in self.front.best.values()])
        fresh = lines[self.told:]
        self.told = len(lines)
        return fresh
