import itertools
import unittest

from helper import rows_by_chance, rows_of_size
from linepress.errors import LineError, NoChoice, NoPiece, NoRoom
from linepress.notation import read, written
from linepress.pieces import is_row
from linepress.tokens import row_of, tokens

A = ("word", "a")
END = ("end",)

LEAVES = (A, ("word", "'"), ("gap", " "), ("gap", ""), END, ("stop", 0), ("stop", 40))

SIGNS = ["'a", "_", ".", "/", "@7", "[", "]", ">2", "<", "{", "|", "}"]


def kinds_throughout(thing):
    if isinstance(thing, tuple):
        return all(kinds_throughout(part) for part in thing)
    return type(thing) in (str, int)


class WrittenAndRead(unittest.TestCase):
    def both(self, row, text):
        self.assertEqual(written(row), text)
        self.assertIs(type(written(row)), str)
        self.again(row)

    def again(self, row):
        found = read(written(row))
        self.assertEqual(found, row)
        self.assertTrue(kinds_throughout(found), found)

    def test_the_row_of_no_pieces(self):
        self.both((), "")
        self.assertIs(type(read("")), tuple)

    def test_words(self):
        self.both((A,), "'a")
        self.both((("word", "abcdefghijkl"),), "'abcdefghijkl")
        self.both((("word", "one"), ("word", "two")), "'one 'two")
        self.both((("word", "!"), ("word", "~")), "'! '~")

    def test_every_sign_of_a_word(self):
        for sign in (chr(number) for number in range(33, 127)):
            if sign != "%":
                self.both((("word", sign), ("word", "a" + sign)), f"'{sign} 'a{sign}")

    def test_words_that_look_like_tokens(self):
        for text in ("_", ".", "/", "@7", "@", "@41", "[", "]", ">3", ">", "<", "{", "|", "}", "'", "''", "'a", "07"):
            self.both((("word", text),), "'" + text)

    def test_gaps(self):
        self.both((("gap", " "),), "_")
        self.both((("gap", ""),), ".")
        self.both((("gap", ""), ("gap", " "), ("gap", "")), ". _ .")

    def test_ends(self):
        self.both((END,), "/")
        self.both((END, END), "/ /")

    def test_every_stop(self):
        for column in range(41):
            self.both((("stop", column),), "@" + str(column))

    def test_groups(self):
        self.both((("group", ()),), "[ ]")
        self.both((("group", (A, END)),), "[ 'a / ]")

    def test_every_hang(self):
        for number in range(13):
            self.both((("hang", number, ()),), f">{number} <")
            self.both((("hang", number, (A,)), A), f">{number} 'a < 'a")

    def test_eithers(self):
        self.both((("either", ((), ())),), "{ | }")
        self.both((("either", ((), (), ())),), "{ | | }")
        self.both((("either", ((A,), (), (END, A), ())),), "{ 'a | | / 'a | }")

    def test_all_kinds_within_one_another(self):
        row = (
            ("word", "f("),
            ("group", (("hang", 2, (("gap", ""), ("either", ((A, END), (("group", ()),))), ("stop", 10))),)),
            ("gap", " "),
            ("word", ")"),
        )
        self.both(row, "'f( [ >2 . { 'a / | [ ] } @10 < ] _ ')")

    def test_all_small_rows(self):
        for size in range(5):
            for row in rows_of_size(size, LEAVES[1:5]):
                self.again(row)

    def test_many_rows(self):
        for row in rows_by_chance(seed=21, count=300, size=60, deep=8, longest=12, furthest=40):
            self.again(row)
        for row in rows_by_chance(seed=22, count=20, size=200, deep=12, longest=12, furthest=40):
            self.assertTrue(is_row(row))
            self.again(row)

    def test_no_two_rows_are_written_alike(self):
        rows = [row for size in range(4) for row in rows_of_size(size, LEAVES)]
        self.assertEqual(len({written(row) for row in rows}), len(rows))

    def test_bounds_that_are_kept(self):
        self.both((A,) * 200, " ".join(["'a"] * 200))
        row = ()
        for level in range(12):
            row = (("group", row),)
        self.both(row, "[ " * 12 + " ".join("]" * 12))
        self.both(row * 8, " ".join([written(row)] * 8))

    def test_numbers_and_words_somewhat_beyond_their_bounds_are_written(self):
        self.assertEqual(written((("stop", 41), ("hang", 113, (("word", "abcdefghijklm"),)))), "@41 >113 'abcdefghijklm <")
        self.assertEqual(written((A,) * 205), " ".join(["'a"] * 205))


class Refused(unittest.TestCase):
    def refused(self, text, at):
        with self.assertRaises(NoPiece, msg=text) as caught:
            read(text)
        error = caught.exception
        self.assertEqual(error.at, at, text)
        self.assertIs(type(error.at), int)
        self.assertIsInstance(error, LineError)
        self.assertIsInstance(error, ValueError)
        self.assertNotIsInstance(error, (NoChoice, NoRoom))

    def no_token(self, part):
        # Whatever stands round it, it is the first one that can't stand there.
        self.refused(part, 1)
        self.refused(part + " 'a", 1)
        self.refused("'a " + part, 2)
        self.refused("'a _ " + part + " ] 'a", 3)
        self.refused("[ >2 { " + part, 4)
        self.refused("{ 'a | " + part + " }", 4)

    def test_empty_tokens(self):
        self.refused(" ", 1)
        self.refused("  ", 1)
        self.refused(" 'a", 1)
        self.refused("'a ", 2)
        self.refused("'a  _", 2)
        self.refused("'a _  'b", 3)
        self.refused("[ ] ", 3)
        self.refused("[ ", 2)
        self.refused(" " * 39999, 1)
        self.refused("'a _ 'b  ", 4)

    def test_stops(self):
        for figures in ("41", "42", "99", "100", "400", "07", "00", "040", "", "-1", "+1", "-0", "4a", "a", "1.0", "1_0",
                        "4\n", "\n4", "'4", "@4", "4@", "4" * 300, "0x1", "\t4", "4\t"):
            self.no_token("@" + figures)

    def test_hangs(self):
        for figures in ("13", "14", "20", "100", "01", "00", "012", "", "-1", "+1", "-0", "1a", "a", "1_2", "1\n", "\n1",
                        ">1", "1>", "1<", "<", "1" * 300):
            self.no_token(">" + figures)

    def test_figures_of_other_scripts(self):
        for figure in ("\u0663", "\u00b2", "\u0967", "\uff13", "\u2462"):
            for sign in ("@", ">"):
                self.no_token(sign + figure)
                self.no_token(sign + "1" + figure)

    def test_words(self):
        self.no_token("'")
        self.no_token("'abcdefghijklm")
        self.no_token("'" + "a" * 500)
        for sign in ("\n", "\t", "\x7f", "\x00", "\u00e9", "\u00a0"):
            self.no_token("'" + sign)
            self.no_token("'ab" + sign)
            self.no_token("'" + sign + "ab")

    def test_line_feeds(self):
        self.no_token("\n")
        for sign in SIGNS:
            self.no_token(sign + "\n")
            self.no_token("\n" + sign)
        self.refused("'a\n'b", 1)
        self.refused("'a _\n'b", 2)

    def test_signs_more_behind_a_token(self):
        for sign in SIGNS[1:]:
            self.no_token("x" + sign)
            for more in ("a", "_", "'", "]", "/", sign):
                self.no_token(sign + more)
        self.no_token("[]")
        self.no_token("{|}")

    def test_signs_that_are_none(self):
        for part in ("a", "abc", "7", "0", "\"", "`", ",", "-", "+", "(", ")", "\\", "=", "open", "end", "A"):
            self.no_token(part)

    def test_a_closing_one_and_nothing_is_open(self):
        for sign in ("]", "<", "|", "}"):
            self.refused(sign, 1)
            self.refused(f"'a {sign} 'a", 2)
            self.refused(f"[ ] {sign}", 3)
            self.refused(f">0 < {sign}", 3)
            self.refused(f"{{ | }} {sign}", 4)

    def test_a_closing_one_and_another_one_is_open(self):
        for opener, wrong in (("[", "<|}"), (">2", "]|}"), ("{", "]<")):
            for sign in wrong:
                self.refused(f"{opener} {sign}", 2)
                self.refused(f"{opener} 'a {sign} 'a", 3)
        self.refused("{ | ]", 3)
        self.refused("{ | <", 3)
        self.refused("[ >1 ] <", 3)
        self.refused("{ [ | ] }", 3)
        self.refused("[ { 'a | 'b ] }", 6)
        self.refused("[ { 'a | 'b } }", 7)

    def test_a_fifth_row(self):
        self.refused("{ | | | | }", 5)
        self.refused("{ 'a | 'b | 'c | 'd | 'e }", 9)
        self.refused("{ { | | | } | | | { | | | } |", 15)

    def test_an_either_of_one_row(self):
        self.refused("{ }", 2)
        self.refused("{ 'a }", 3)
        self.refused("{ { | } }", 5)
        self.refused("{ | { 'a } }", 5)

    def test_a_thirteenth_that_opens(self):
        for sign in ("[", ">0", "{"):
            for last in ("[", ">0", "{"):
                self.refused(f"{sign} " * 12 + last, 13)
                self.refused(f"{sign} " * 12 + f"'a {last} 'b", 14)
        self.refused("[ " * 12 + "] " * 12 + ">1 " * 13, 37)
        self.refused("[ " * 12 + "] [ [", 15)

    def test_the_two_hundred_and_first_token(self):
        ahead = "'a " * 200
        for sign in SIGNS:
            self.refused(ahead + sign, 201)
            self.refused(ahead + " ".join([sign] * 40), 201)
        self.refused(ahead, 201)
        self.refused(ahead + "no", 201)
        self.refused("[ " + "'a " * 199 + "]", 201)
        self.refused("[ ] " * 100 + "'a", 201)
        self.refused(" ".join(["'a"] * 10000), 201)

    def test_something_is_open_at_the_end(self):
        self.refused("[", 2)
        self.refused(">12", 2)
        self.refused("{", 2)
        self.refused("{ |", 3)
        self.refused("{ 'a | 'b | 'c", 7)
        self.refused("[ >1 <", 4)
        self.refused("'a [ ] [ 'a", 6)
        self.refused(" ".join("[" * 12), 13)
        self.refused("'a " * 199 + "[", 201)

    def test_the_first_one_counts(self):
        self.refused("] no", 1)
        self.refused("no ]", 1)
        self.refused("'a [ no ] }", 3)
        self.refused("[ } no", 2)
        self.refused("'a  ]", 2)
        self.refused("@41 >13 '", 1)
        self.refused("'a @40 >12 @41 <", 4)

    def test_a_refusal_leaves_nothing_behind(self):
        self.refused("[ [ <", 3)
        self.assertEqual(read("'a"), (A,))
        self.refused("]", 1)


class AsTokens(unittest.TestCase):
    def test_all_short_texts_of_tokens(self):
        # Signs and tokens are put together in the same way, and refused with the same numbers.
        meant = {"'a": A, "/": END, "[": ("open",), "]": ("close",), ">2": ("hang", 2), "<": ("back",),
                 "{": ("either",), "|": ("or",), "}": ("done",)}
        for count in range(6):
            for signs in itertools.product(meant, repeat=count):
                text = " ".join(signs)
                expected = self.answer(row_of, [meant[sign] for sign in signs])
                found = self.answer(read, text)
                if found != expected:
                    self.fail((text, found, expected))
                if isinstance(found, tuple):
                    self.assertEqual(written(found), text)

    def answer(self, asked, thing):
        try:
            return asked(thing)
        except NoPiece as error:
            return error.at

    def test_all_short_texts_of_signs(self):
        # A text is taken just where it is what is written of some row.
        leaves = [("word", "1"), ("word", "'"), ("stop", 1), ("stop", 11), ("gap", " "), ("word", "@"), ("word", "_")]
        taken = {written(row) for size in range(4) for row in rows_of_size(size, leaves)}
        for count in range(6):
            for signs in itertools.product("'1@_[] ", repeat=count):
                text = "".join(signs)
                found = self.answer(read, text)
                if isinstance(found, tuple):
                    self.assertEqual(written(found), text)
                elif text in taken:
                    self.fail((text, found))

    def test_what_is_told_of_tokens(self):
        for row in rows_by_chance(seed=23, count=100, size=40, deep=6):
            self.assertEqual(len(written(row).split(" ")), len(tokens(row)))
            self.assertEqual(tokens(read(written(row))), tokens(row))


if __name__ == "__main__":
    unittest.main()
