import functools
import os.path
import random
import unittest

from helper import refusal, repeated, rows_by_chance, rows_of_size, soon
from linepress.best import pressed
from linepress.errors import LineError, NoChoice, NoPiece, NoRoom
from linepress.notation import read, written
from linepress.press import Press
from linepress.roads import roads
from linepress.setting import set_by

WRONG_PARTS = ("", "'", "x", "__", "''''''''''''''", "'abcdefghijklm", "@", "@41", "@01", "@-1", "@1a", "@ 1", ">",
               ">13", ">00", "[[", "]]", "'a\n", "\n", "_.", "/'", "@+1", "<1", "[1", "'a\t")


def cannot_stand(parts):
    # The number of the first of these tokens that can't stand where it does. A word is put behind them, since the one
    # empty token would make the empty text, which has none.
    try:
        read(" ".join(parts + ("'x",)))
    except NoPiece as error:
        if error.at <= len(parts):
            return error.at
    return None


@functools.lru_cache(maxsize=None)
def told_behind(parts, width):
    # All that is told behind these whole tokens, or the refusal, found as the document words it.
    if not parts:
        return ""
    ahead = told_behind(parts[:-1], width)
    if isinstance(ahead, tuple):
        return ahead
    if cannot_stand(parts) is not None:
        return (NoPiece, cannot_stand(parts))
    try:
        row = read(" ".join(parts))
    except NoPiece:
        return ahead
    texts = [set_by(row, road[3]) for road in roads(row, width)]
    if not texts:
        return (NoRoom, None)
    common = os.path.commonprefix(texts)
    return common[:common.rfind("\n") + 1]


def told_of(signs, width):
    return told_behind(tuple(signs.split(" ")[:-1]), width)


def rest_of(signs, width):
    told = told_of(signs, width)
    if isinstance(told, tuple):
        return told
    try:
        text = pressed(read(signs), width)[0]
    except LineError as error:
        return (type(error), getattr(error, "at", None))
    return text[len(told):] if text.startswith(told) else None


def rest_or_refusal(press):
    return refusal(press.rest) or press.rest()


class Case(unittest.TestCase):
    def run_parts(self, parts, width, ask_rest=True):
        # Takes parts and holds all that is told against the document's words; tells whether it was refused.
        press = Press(width)
        signs = ""
        told = ""
        for part in parts:
            signs += part
            expected = told_of(signs, width)
            if isinstance(expected, tuple):
                self.assertEqual(refusal(press.take, part), expected, (parts, width, signs))
                self.refused_for_good(press, expected)
                return expected
            fresh = press.take(part)
            self.assertIs(type(fresh), str)
            told += fresh
            self.assertEqual(told, expected, (parts, width, signs))
            if ask_rest:
                self.assertEqual(rest_or_refusal(press), rest_of(signs, width), (parts, width, signs))
        self.assertEqual(rest_or_refusal(press), rest_of(signs, width), (parts, width, signs))
        return None

    def refused_for_good(self, press, expected):
        for part in ("", " ", "'a ", "", "] ", "x"):
            self.assertEqual(refusal(press.take, part), expected)
            self.assertEqual(refusal(press.rest), expected)

    def cut_at_each_place(self, notation, width):
        self.run_parts([notation], width)
        self.run_parts(list(notation), width)
        for place in range(len(notation) + 1):
            self.run_parts([notation[:place], notation[place:]], width, ask_rest=False)
            self.run_parts(["", notation[:place], "", "", notation[place:], ""], width)

    def told_by_sign(self, notation, width, expected):
        # The text that each sign makes stand, where one does: {how many signs are taken: what is told}.
        press = Press(width)
        told = {}
        for count, sign in enumerate(notation, start=1):
            fresh = press.take(sign)
            if fresh:
                told[count] = fresh
        self.assertEqual(told, expected, (notation, width))
        self.cut_at_each_place(notation, width)

    def refused_at(self, parts, width, expected):
        # All parts but the last one are taken.
        press = Press(width)
        for part in parts[:-1]:
            press.take(part)
        self.assertEqual(refusal(press.take, parts[-1]), expected, (parts, width))
        self.refused_for_good(press, expected)


class LinesThatStand(Case):
    def test_lines_behind_ends(self):
        self.told_by_sign("'ab / 'c / / 'd ", 5, {6: "ab\n", 11: "c\n", 13: "\n"})

    def test_lines_behind_gaps_and_stops(self):
        self.told_by_sign("'ab _ 'c . 'd @0 'e", 5, {6: "ab\n", 11: "c\n", 17: "d\n"})

    def test_a_token_without_its_blank_is_not_whole(self):
        self.told_by_sign("'ab /", 5, {})
        self.told_by_sign("'ab / ", 5, {6: "ab\n"})
        self.told_by_sign("'ab @1", 5, {})
        self.told_by_sign("'ab @1 ", 5, {7: "ab\n"})

    def test_what_is_open_tells_nothing(self):
        self.told_by_sign("'a / [ 'b / 'c / ] 'd", 5, {5: "a\n", 19: "b\nc\n"})
        self.told_by_sign(">2 'b / 'c / < 'd", 5, {15: "b\n  c\n"})
        self.told_by_sign("{ 'b / | 'b / / } 'd", 5, {18: "b\n"})

    def test_told_behind_the_last_token_that_leaves_nothing_open(self):
        press = Press(5)
        self.assertEqual(press.take("'a / [ 'b / "), "a\n")
        self.assertEqual(press.take("'c ]"), "")
        self.assertEqual(press.take(" "), "b\n")

    def test_lines_stand_where_all_roads_begin_with_them(self):
        # Behind the group there are two roads, and no line in common; the end leaves one of them.
        self.told_by_sign("'ab [ _ 'c ] / 'd", 5, {15: "ab c\n"})
        self.told_by_sign("'ab / 'c [ _ 'd ] [ _ 'e ] / ", 3, {6: "ab\n", 29: "c d\ne\n"})
        self.told_by_sign("'ab / 'c [ _ 'd ] [ _ 'e ] 'fg / ", 3, {6: "ab\n", 31: "c d\n", 33: "efg\n"})

    def test_a_line_stands_as_soon_as_no_other_road_fits(self):
        self.told_by_sign("'ab [ _ 'c ] 'def 'gh", 5, {18: "ab\n"})
        self.told_by_sign("'ab [ _ 'c ] 'def 'gh", 9, {})
        self.told_by_sign("'ab [ _ 'c ] 'def 'gh ", 8, {22: "ab\n"})

    def test_lines_alike_as_far_as_they_go(self):
        # The texts of both roads are the same up to within a line: the line does not stand.
        self.told_by_sign("{ 'ab / 'c | 'ab / 'cd } 'e", 5, {25: "ab\n"})
        self.told_by_sign("{ 'ab / 'c / | 'ab / 'cd / 'x } 'e", 5, {32: "ab\n"})
        self.told_by_sign("{ 'ab | 'ab / 'cd } 'e", 5, {})
        self.told_by_sign("{ 'abc | 'ab / 'cd } 'e", 5, {})

    def test_an_empty_line_stands_too(self):
        self.told_by_sign("/ / ", 1, {2: "\n", 4: "\n"})
        self.told_by_sign(">3 / / < 'a", 4, {9: "\n   \n"})
        self.told_by_sign("@2 / @3 / ", 4, {5: "  \n", 10: "   \n"})

    def test_the_row_of_no_pieces(self):
        press = Press(3)
        self.assertEqual(press.rest(), "")
        self.assertEqual([press.take("") for each in range(3)], ["", "", ""])
        self.assertEqual(press.rest(), "")
        self.assertEqual((press.take("'a / 'b"), press.rest()), ("a\n", "b"))

    def test_many_parts_with_many_tokens(self):
        press = Press(6)
        self.assertEqual(press.take("'ab / 'c / [ 'd "), "ab\nc\n")
        self.assertEqual(press.take("_ 'e ] / 'f @2 @1 "), "d e\nf \n")
        self.assertEqual(press.take("'g"), "")
        self.assertEqual(press.rest(), " g")


class HeldAgainstTheWords(Case):
    def test_all_small_rows(self):
        leaves = (("word", "a"), ("word", "bcd"), ("gap", " "), ("end",), ("stop", 1))
        for size in range(4):
            for row in rows_of_size(size, leaves):
                for width in (1, 3):
                    self.run_parts(list(written(row) + " "), width)

    def test_cut_at_each_place(self):
        for row in rows_by_chance(seed=81, count=30, size=24, longest=3, furthest=6):
            for width in (3, 6, 11):
                self.cut_at_each_place(written(row), width)

    def test_sign_by_sign(self):
        lines = 0
        for row in rows_by_chance(seed=82, count=120, size=50, longest=4, furthest=8):
            for width in (4, 7, 12, 25):
                refused = self.run_parts(list(written(row) + " "), width)
                if refused is None:
                    lines += told_of(written(row) + " ", width).count("\n")
        self.assertGreater(lines, 200)

    def test_cut_by_chance(self):
        source = random.Random(83)
        for row in rows_by_chance(seed=84, count=120, size=60, longest=4, furthest=8):
            notation = written(row)
            for width in (5, 9, 16):
                self.run_parts(parts_by_chance(source, notation), width, ask_rest=False)

    def test_wrong_notations(self):
        source = random.Random(85)
        refusals = {}
        for row in rows_by_chance(seed=86, count=150, size=30, longest=4, furthest=8):
            parts = [part for part in written(row).split(" ") if source.randrange(12)]
            for each in range(source.randint(1, 2)):
                more = source.choice(("]", "<", "|", "}", "[", "{", ">2", source.choice(WRONG_PARTS)))
                parts.insert(source.randint(0, len(parts)), more)
            notation = " ".join(parts) + source.choice(("", " "))
            for width in (3, 8, 30):
                refused = self.run_parts(list(notation), width)
                self.run_parts(parts_by_chance(source, notation), width)
                self.run_parts([notation], width)
                kind = refused[0] if refused else None
                refusals[kind] = refusals.get(kind, 0) + 1
        for kind in (NoPiece, NoRoom, None):
            self.assertGreater(refusals[kind], 20)

    def test_any_order_of_few_tokens(self):
        source = random.Random(87)
        kinds = ("'a", "'bcd", "_", "/", "[", "]", ">1", "<", "{", "|", "}")
        for each in range(400):
            notation = " ".join(source.choice(kinds) for token in range(source.randint(1, 9))) + " "
            self.run_parts(list(notation), 3)
            self.run_parts(parts_by_chance(source, notation), 4)

    def test_all_parts_and_the_rest_are_the_pressed_text(self):
        source = random.Random(88)
        answered = 0
        for row in rows_by_chance(seed=89, count=200, size=80, longest=4, furthest=10):
            for width in (8, 20, 40):
                press = Press(width)
                if refusal(pressed, row, width) is None:
                    told = [press.take(part) for part in parts_by_chance(source, written(row))]
                    self.assertEqual("".join(told) + press.rest(), pressed(row, width)[0], (row, width))
                    answered += 1
        self.assertGreater(answered, 200)


def parts_by_chance(source, notation):
    places = sorted(source.randint(0, len(notation)) for each in range(source.randint(0, 6)))
    return [notation[begin:end] for begin, end in zip([0] + places, places + [len(notation)])]


class NoPieceRefusals(Case):
    def stands_until_its_blank(self, ahead, part, at, width=40):
        # The token is refused with the blank behind it, and not before.
        press = Press(width)
        for sign in ahead + part:
            press.take(sign)
        self.assertEqual(refusal(press.rest), (NoPiece, at), (ahead, part))
        self.assertEqual(press.take(""), "")
        self.assertEqual(refusal(press.take, " "), (NoPiece, at), (ahead, part))
        self.refused_for_good(press, (NoPiece, at))
        self.refused_at([ahead + part + " "], width, (NoPiece, at))
        self.refused_at([ahead + part + " 'more ] } "], width, (NoPiece, at))

    def test_a_token_that_no_row_has(self):
        for part in WRONG_PARTS:
            if " " not in part:
                self.stands_until_its_blank("'a ", part, 2)
                self.stands_until_its_blank("[ { 'a | ", part, 5)
                if part:
                    self.stands_until_its_blank("", part, 1)

    def test_a_blank_that_is_taken_first_of_all(self):
        self.refused_at([" "], 5, (NoPiece, 1))
        self.refused_at(["", "", " 'a"], 5, (NoPiece, 1))
        self.refused_at([" 'a / "], 5, (NoPiece, 1))

    def test_two_blanks_side_by_side(self):
        self.refused_at(["'a ", " "], 5, (NoPiece, 2))
        self.refused_at(["'a / 'b", "  "], 5, (NoPiece, 4))
        self.refused_at(["'a  'b"], 5, (NoPiece, 2))

    def test_a_number_may_go_on(self):
        press = Press(40)
        self.assertEqual([press.take(sign) for sign in "@40"], ["", "", ""])
        self.assertEqual(press.rest(), " " * 40)
        self.assertEqual(press.take("0"), "")
        self.assertEqual(refusal(press.rest), (NoPiece, 1))
        self.assertEqual(refusal(press.take, " "), (NoPiece, 1))

    def test_what_ends_where_nothing_is_open(self):
        for part in ("]", "<", "|", "}"):
            self.stands_until_its_blank("", part, 1)
            self.stands_until_its_blank("'a / ", part, 3)
            self.stands_until_its_blank("[ 'a ] ", part, 4)

    def test_what_ends_what_was_not_opened_so(self):
        for opener, own in (("[", ("]",)), (">1", ("<",)), ("{", ("|",)), ("{ |", ("|", "}"))):
            for part in ("]", "<", "|", "}"):
                if part not in own:
                    at = len(opener.split()) + 1
                    self.stands_until_its_blank(opener + " ", part, at)
                    self.stands_until_its_blank("'a [ ] " + opener + " [ ] ", part, at + 5)

    def test_rows_of_an_either(self):
        self.stands_until_its_blank("{ ", "}", 2)
        self.stands_until_its_blank("{ 'a / ", "}", 4)
        self.stands_until_its_blank("{ | | | ", "|", 5)
        self.stands_until_its_blank("'x { 'a | | | 'b ", "|", 8)
        self.assertEqual(Press(5).take("{ | | | } "), "")

    def test_the_thirteenth_that_opens(self):
        for part in ("[", ">3", "{"):
            for ahead in ("[ ", ">1 ", "{ 'a | ", "{ "):
                self.stands_until_its_blank(ahead * 12, part, len(ahead.split()) * 12 + 1)
            self.assertEqual(Press(40).take("[ " * 11 + part + " "), "")
            self.assertEqual(Press(40).take("[ " * 12 + "] " + part + " "), "")

    def test_the_two_hundred_and_first_token(self):
        for part in ("'a", "/", "_", "@3", "[", ">1", "{", "x", "]"):
            self.stands_until_its_blank("/ " * 200, part, 201)
        self.stands_until_its_blank("[ " + "_ " * 199, "]", 201)
        press = Press(40)
        self.assertEqual(press.take("/ " * 199 + "/"), "\n" * 199)
        self.assertEqual(press.rest(), "\n")
        self.assertEqual(press.take(" "), "\n")
        self.assertEqual(refusal(press.rest), (NoPiece, 201))
        self.assertEqual(press.take(""), "")

    def test_the_first_of_several(self):
        self.refused_at(["'a ] x  "], 5, (NoPiece, 2))
        self.refused_at(["'a x ] "], 5, (NoPiece, 2))
        self.refused_at(["'a ", "x", " "], 5, (NoPiece, 2))

    def test_the_number_stays_whatever_comes(self):
        press = Press(5)
        self.assertEqual(press.take("'a / 'b "), "a\n")
        for part in ("x / ", "", "'c / ", "] ", "x"):
            with self.assertRaises(NoPiece) as told:
                press.take(part)
            self.assertEqual(told.exception.at, 4)
            self.assertIs(type(told.exception.at), int)
            with self.assertRaises(NoPiece) as told:
                press.rest()
            self.assertEqual(told.exception.at, 4)

    def test_the_refusal_is_no_other(self):
        press = Press(5)
        for ask in (lambda: press.take("x "), press.rest, lambda: press.take("")):
            with self.assertRaises(LineError) as told:
                ask()
            self.assertIsInstance(told.exception, (NoPiece, ValueError))
            self.assertNotIsInstance(told.exception, (NoRoom, NoChoice))


class NoRoomRefusals(Case):
    def test_at_the_blank_behind_and_not_before(self):
        press = Press(2)
        self.assertEqual([press.take(sign) for sign in "'abc"], ["", "", "", ""])
        self.assertEqual(refusal(press.rest), (NoRoom, None))
        self.assertEqual(press.take(""), "")
        self.assertEqual(refusal(press.take, " "), (NoRoom, None))
        self.refused_for_good(press, (NoRoom, None))

    def test_only_where_nothing_is_open(self):
        self.refused_at(["[ 'abc ", "/ 'abcdef ", "]", " "], 2, (NoRoom, None))
        self.refused_at([">1 'abc ", "_ ", "<", " "], 2, (NoRoom, None))
        self.refused_at(["{ 'abc ", "| 'abc ", "}", " "], 2, (NoRoom, None))
        press = Press(2)
        self.assertEqual([press.take(part) for part in ("{ 'abc ", "| 'a ", "} ", "'b")], ["", "", "", ""])
        self.assertEqual(press.rest(), "ab")

    def test_nothing_is_told_of_the_part_that_is_refused(self):
        self.refused_at(["'a / 'b / 'abc "], 2, (NoRoom, None))
        press = Press(2)
        self.assertEqual(press.take("'a / 'b"), "a\n")
        self.assertEqual(refusal(press.take, " / 'c / 'abc "), (NoRoom, None))
        self.refused_for_good(press, (NoRoom, None))

    def test_which_of_both_comes_first(self):
        self.refused_at(["'abc ] "], 2, (NoRoom, None))
        self.refused_at(["'abc x "], 2, (NoRoom, None))
        self.refused_at(["] 'abc "], 2, (NoPiece, 1))
        self.refused_at(["'a ] 'abc "], 2, (NoPiece, 2))
        self.refused_at(["[ 'abc ] ] "], 2, (NoRoom, None))
        self.refused_at(["[ 'abc < ] "], 2, (NoPiece, 3))
        self.refused_at(["[ 'abc ", "x ", ], 2, (NoPiece, 3))
        self.refused_at(["'ab 'c", " ] "], 2, (NoRoom, None))
        self.refused_at(["'ab 'c ] "], 3, (NoPiece, 3))
        self.refused_at(["'abc  "], 2, (NoRoom, None))
        self.refused_at(["'a" + " /" * 199 + " 'abc "], 2, (NoPiece, 201))
        self.refused_at(["'a" + " /" * 198 + " 'abc ] "], 2, (NoRoom, None))

    def test_it_stays_as_it_was_refused_first(self):
        press = Press(2)
        self.assertEqual(refusal(press.take, "'abc "), (NoRoom, None))
        for part in ("x ", "] ", " ", ""):
            self.assertEqual(refusal(press.take, part), (NoRoom, None))
            self.assertEqual(refusal(press.rest), (NoRoom, None))
        press = Press(2)
        self.assertEqual(refusal(press.take, "x "), (NoPiece, 1))
        for part in ("'abc ", "'a ", ""):
            self.assertEqual(refusal(press.take, part), (NoPiece, 1))

    def test_the_refusal_is_no_other(self):
        press = Press(2)
        for ask in (lambda: press.take("'abc "), press.rest, lambda: press.take("")):
            with self.assertRaises(NoRoom) as told:
                ask()
            self.assertIsInstance(told.exception, LineError)
            self.assertNotIsInstance(told.exception, (NoPiece, NoChoice))


class TheRest(Case):
    def test_ahead_of_any_part_and_behind_empty_ones(self):
        for width in range(1, 41):
            press = Press(width)
            self.assertEqual(press.rest(), "")
            self.assertEqual(press.take(""), "")
            self.assertEqual(press.rest(), "")

    def test_asked_twice_and_between_parts(self):
        press = Press(6)
        self.assertEqual(press.take("'ab / 'c"), "ab\n")
        self.assertEqual([press.rest(), press.rest()], ["c", "c"])
        self.assertEqual(press.take("d"), "")
        self.assertEqual([press.rest(), press.rest()], ["cd", "cd"])
        self.assertEqual(press.take(" _ 'e"), "cd\n")
        self.assertEqual(press.rest(), "e")
        self.assertEqual(press.take(""), "")
        self.assertEqual(press.rest(), "e")

    def test_the_rest_counts_for_nothing_told(self):
        press = Press(6)
        press.take("'a / 'b / 'c /")
        self.assertEqual(press.rest(), "c\n")
        self.assertEqual(press.take(" "), "c\n")
        self.assertEqual(press.take("'d"), "")
        self.assertEqual(press.rest(), "d")

    def test_the_last_token_cannot_stand(self):
        for notation, at in (("'a ", 2), ("'a x", 2), ("x", 1), ("'a ]", 2), ("[ 'a ] @41", 4), ("'a / ", 3), ("'", 1),
                             ("{ }", 2), ("{ | | | |", 5), ("[ 'a ", 3), ("[ <", 2), ("[ " * 12 + "[", 13),
                             ("/ " * 200 + "/", 201), ("/ " * 200, 201), ("'abcdefghijklm", 1), ("'a >13", 2)):
            press = Press(40)
            press.take(notation)
            self.assertEqual(refusal(press.rest), (NoPiece, at), notation)
            self.assertEqual(refusal(press.rest), (NoPiece, at), notation)
            self.assertEqual(press.take(""), "")

    def test_something_is_open(self):
        for notation, at in (("[", 2), (">3", 2), ("{", 2), ("'a / [ 'b", 5), ("{ 'a | 'b", 5), ("[ [ ]", 4),
                             ("[ " * 12 + "'a", 14), ("{ | | |", 5)):
            press = Press(40)
            press.take(notation)
            self.assertEqual(refusal(press.rest), (NoPiece, at), notation)
            self.assertEqual(refusal(press.rest), (NoPiece, at), notation)

    def test_asked_and_refused_and_gone_on_with(self):
        press = Press(4)
        self.assertEqual(press.take("'a / [ 'b"), "a\n")
        self.assertEqual(refusal(press.rest), (NoPiece, 5))
        self.assertEqual(press.take(" "), "")
        self.assertEqual(refusal(press.rest), (NoPiece, 5))
        self.assertEqual(press.take("_ 'c ]"), "")
        self.assertEqual(press.rest(), "b c")
        self.assertEqual(press.take(" "), "")
        self.assertEqual(refusal(press.rest), (NoPiece, 8))
        self.assertEqual(press.take("'de"), "")
        self.assertEqual(press.rest(), "b\ncde")
        self.assertEqual(press.take("f"), "")
        self.assertEqual(press.rest(), "b\ncdef")
        self.assertEqual(press.take("g"), "")
        self.assertEqual(refusal(press.rest), (NoRoom, None))
        self.assertEqual(press.take("h"), "")
        self.assertEqual(refusal(press.rest), (NoRoom, None))
        self.assertEqual(press.take("ijklmnop"), "")
        self.assertEqual(refusal(press.rest), (NoPiece, 8))
        self.assertEqual(refusal(press.take, " "), (NoPiece, 8))

    def test_no_room_and_gone_on_with(self):
        press = Press(3)
        press.take("'ab @")
        self.assertEqual(refusal(press.rest), (NoPiece, 2))
        self.assertEqual(press.take("4"), "")
        self.assertEqual(refusal(press.rest), (NoRoom, None))
        self.assertEqual(press.take("0"), "")
        self.assertEqual(refusal(press.rest), (NoRoom, None))
        self.assertEqual(press.take("0"), "")
        self.assertEqual(refusal(press.rest), (NoPiece, 2))
        press = Press(3)
        press.take("[ 'abcd ]")
        self.assertEqual(refusal(press.rest), (NoRoom, None))
        self.assertEqual(press.take("x"), "")
        self.assertEqual(refusal(press.rest), (NoPiece, 3))

    def test_a_refused_rest_refuses_no_part(self):
        press = Press(12)
        told = []
        for part in ("'", "a", " ", "/", " ", "[", " ", "'b", " ", "]"):
            refusal(press.rest)
            told.append(press.take(part))
        self.assertEqual(told, ["", "", "", "", "a\n", "", "", "", "", ""])
        self.assertEqual(press.rest(), "b")


class LargeRows(Case):
    def by_sign(self, notation, width):
        press = Press(width)
        told = "".join([press.take(sign) for sign in notation])
        return told + press.rest()

    def test_large_rows_sign_by_sign(self):
        for notation in ("[ _ 'a ]", "[ 'abc _ 'de ]", "{ 'a | 'bb _ | }", "[ _ ]", "{ | / }", "'a [ _ ]", "[ ]"):
            row = repeated(notation)
            for width in (6, 40):
                self.assertEqual(soon(self, self.by_sign, written(row), width), pressed(row, width)[0])

    def test_large_rows_by_chance(self):
        answered = 0
        for row in rows_by_chance(seed=91, count=20, size=200, deep=12):
            for width in (9, 28, 40):
                if refusal(pressed, row, width) is None:
                    self.assertEqual(soon(self, self.by_sign, written(row), width), pressed(row, width)[0])
                    answered += 1
        self.assertGreater(answered, 15)

    def test_forty_thousand_signs_without_a_blank(self):
        press = Press(40)
        press.take("'a / ")

        def take_all():
            for each in range(39990):
                self.assertEqual(press.take("b"), "")
        soon(self, take_all)
        self.assertEqual(refusal(press.rest), (NoPiece, 3))
        self.assertEqual(refusal(press.take, " "), (NoPiece, 3))

    def test_a_part_of_forty_thousand_signs(self):
        self.assertEqual(soon(self, refusal, Press(40).take, "/ " * 20000), (NoPiece, 201))
        self.assertEqual(soon(self, refusal, Press(40).take, " " * 40000), (NoPiece, 1))
        self.assertEqual(soon(self, Press(40).take, "'" * 40000), "")


class SideBySide(Case):
    def test_two_presses_do_not_know_of_each_other(self):
        one = Press(4)
        other = Press(9)
        self.assertEqual((one.take("'ab [ _ 'cd"), other.take("'x / ")), ("", "x\n"))
        self.assertEqual((one.take(" ] "), other.take("{ 'y | ")), ("ab\n", ""))
        self.assertEqual(refusal(other.take, "x "), (NoPiece, 6))
        self.assertEqual(one.take("'e / "), "cde\n")
        self.assertEqual(refusal(other.rest), (NoPiece, 6))
        third = Press(4)
        self.assertEqual(third.rest(), "")
        self.assertEqual(one.take("'f"), "")
        self.assertEqual((one.rest(), third.take("/ "), third.take("'a")), ("f", "\n", ""))
        self.assertEqual(refusal(third.take, "bcde "), (NoRoom, None))
        self.assertEqual(one.rest(), "f")

    def test_the_same_by_turns(self):
        for row in rows_by_chance(seed=92, count=40, size=50, longest=4, furthest=8):
            notation = written(row) + " "
            presses = {width: Press(width) for width in (6, 14, 30)}
            alone = {width: Press(width) for width in presses}
            refused = {}
            for sign in notation:
                for width, press in presses.items():
                    if width not in refused and refusal(press.take, sign) is not None:
                        refused[width] = refusal(press.rest)
            for width in presses:
                self.assertEqual(refused.get(width), refusal(alone[width].take, notation), (notation, width))


if __name__ == "__main__":
    unittest.main()
