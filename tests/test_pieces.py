import unittest

from linepress.pieces import depth, is_row, words_of
from linepress.tokens import tokens

WORD = ("word", "a")


def nested(levels, wrap, inner=()):
    row = inner
    for level in range(levels):
        row = (wrap(row),)
    return row


def in_group(row):
    return ("group", row)


def in_hang(row):
    return ("hang", 1, row)


def in_either(row):
    return ("either", ((), row))


WRAPS = (in_group, in_hang, in_either)

MIXED = (
    ("word", "one"),
    ("gap", " "),
    ("group", (
        ("word", "two"),
        ("hang", 2, (
            ("gap", ""),
            ("word", "three"),
            ("either", (
                (("word", "four"), ("end",)),
                (),
                (("group", (("word", "five"), ("word", "one"))), ("stop", 8)),
            )),
            ("word", "six"),
        )),
    )),
    ("word", "seven"),
)


class Shapes(unittest.TestCase):
    def yes(self, *pieces):
        self.assertIs(is_row(pieces), True, pieces)

    def no(self, *pieces):
        self.assertIs(is_row(pieces), False, pieces)
        for wrap in WRAPS:
            self.assertIs(is_row((wrap(pieces),)), False, pieces)

    def test_the_row_of_no_pieces(self):
        self.yes()

    def test_words(self):
        self.yes(("word", "a"))
        self.yes(("word", "abcdefghijkl"))
        for thing in ("", "abcdefghijklm", "a b", "a\n", None, 1, True, ["a"], ("a",)):
            self.no(("word", thing))

    def test_gaps(self):
        self.yes(("gap", ""))
        self.yes(("gap", " "))
        for thing in ("  ", "a", "\n", None, 0, 1, False, [], (), [""], (" ",)):
            self.no(("gap", thing))

    def test_ends(self):
        self.yes(("end",))
        self.no(("end", ""))
        self.no(("end", None))
        self.no(("end", ()))

    def test_stops(self):
        for column in range(-5, 60):
            self.assertIs(is_row((("stop", column),)), 0 <= column <= 40, column)
        for thing in (True, False, None, "0", "", [], (), (0,), 10 ** 50, -10 ** 50):
            self.no(("stop", thing))

    def test_groups(self):
        self.yes(("group", ()))
        self.yes(("group", (WORD, WORD)))
        for thing in ([], [WORD], None, 0, "", "ab", WORD, ((),), (((),),)):
            self.no(("group", thing))

    def test_hangs(self):
        for number in range(-5, 30):
            self.assertIs(is_row((("hang", number, ()),)), 0 <= number <= 12, number)
        self.yes(("hang", 3, (WORD,)))
        for thing in (True, False, None, "1", [], (), (1,)):
            self.no(("hang", thing, ()))
        for thing in ([], [WORD], None, 0, "", WORD):
            self.no(("hang", 1, thing))
        self.no(("hang", (), 1))

    def test_eithers(self):
        for count in range(8):
            self.assertIs(is_row((("either", ((),) * count),)), 2 <= count <= 4, count)
            self.assertIs(is_row((("either", ((WORD,),) * count),)), 2 <= count <= 4, count)
        for thing in ([(), ()], [[], []], ([], ()), ((), []), (None, ()), ((), WORD), "ab", None, 2):
            self.no(("either", thing))
        self.no(("either", (), ()))

    def test_wrong_row_at_each_place_of_an_either(self):
        for place in range(4):
            rows = [(WORD,)] * 4
            self.yes(("either", tuple(rows)))
            rows[place] = (("word", ""),)
            self.no(("either", tuple(rows)))

    def test_too_few_and_too_many_parts(self):
        for piece in ((), ("word",), ("gap",), ("stop",), ("group",), ("hang",), ("hang", 1), ("either",)):
            self.no(piece)
        for piece in (("word", "a"), ("gap", ""), ("stop", 1), ("group", ()), ("hang", 1, ()), ("either", ((), ()))):
            self.yes(piece)
            self.no(piece + ("a",))
            self.no(piece + ((),))

    def test_tokens_are_no_pieces(self):
        for token in (("open",), ("close",), ("hang", 1), ("back",), ("either",), ("or",), ("done",)):
            self.no(token)

    def test_unknown_kinds(self):
        for kind in ("", "Word", "words", "row", None, 0, True, ["word"], ("word",), [], ()):
            self.no((kind,))
            self.no((kind, "a"))
            self.no((kind, ()))
            self.no((kind, 1, ()))

    def test_lists_in_the_place_of_tuples(self):
        self.assertIs(is_row([]), False)
        self.assertIs(is_row([WORD]), False)
        self.no(["word", "a"])
        self.no(["end"])
        self.no(["group", ()])
        self.no(["hang", 1, ()])
        self.no(["either", ((), ())])

    def test_things_that_are_no_row(self):
        for thing in (None, True, False, 0, 1, -1, 10 ** 59, "", "a", "word", [], [()], [[]], WORD, ("end",), ((),),
                      (None,), (1,), ("a",), ("",), (True,)):
            self.assertIs(is_row(thing), False, thing)

    def test_one_wrong_piece_among_right_ones(self):
        for place in range(5):
            pieces = [WORD] * 5
            pieces[place] = ("word", "a b")
            self.no(*pieces)

    def test_all_kinds_within_one_another(self):
        self.yes(*MIXED)

    def test_deep_things_that_are_no_row(self):
        as_tuple = ()
        as_list = []
        for level in range(59):
            as_tuple = (as_tuple,)
            as_list = [as_list]
        self.assertIs(is_row(as_tuple), False)
        self.assertIs(is_row(as_list), False)
        self.assertIs(is_row((("group", as_tuple[0][0]),)), False)

    def test_things_of_many_parts(self):
        self.assertIs(is_row((None,) * 1999), False)
        self.assertIs(is_row(((),) * 1999), False)
        self.assertIs(is_row((WORD,) * 600), False)


class Bounds(unittest.TestCase):
    def test_a_depth_of_twelve_and_of_thirteen(self):
        for wrap in WRAPS:
            for levels in range(20):
                row = nested(levels, wrap)
                self.assertIs(is_row(row), levels <= 12, (wrap, levels))

    def test_the_depth_counts_wherever_it_lies(self):
        deep = nested(12, in_group)
        self.assertIs(is_row((WORD, ("hang", 0, ()), WORD) + deep), True)
        for row in ((("hang", 0, deep),), (WORD, ("either", ((), (WORD,), deep))), (("either", (deep, ())),)):
            self.assertIs(is_row(row), False)

    def test_as_deep_as_any_thing_may_be(self):
        self.assertIs(is_row(nested(29, in_group)), False)
        self.assertIs(is_row(nested(19, in_either)), False)

    def test_two_hundred_tokens_and_one_more(self):
        for piece, count in ((WORD, 1), (("group", ()), 2), (("hang", 0, ()), 2), (("either", ((), ())), 3),
                             (("either", ((), (), ())), 4), (("either", ((), (), (), ())), 5)):
            times = 200 // count
            row = (piece,) * times + (WORD,) * (200 - times * count)
            self.assertEqual(len(tokens(row)), 200)
            self.assertIs(is_row(row), True, piece)
            self.assertIs(is_row(row + (("end",),)), False, piece)
            self.assertIs(is_row((("gap", ""),) + row), False, piece)

    def test_tokens_count_at_every_depth(self):
        for wrap, count in ((in_group, 2), (in_hang, 2), (in_either, 3)):
            for levels in range(1, 13):
                inside = 200 - levels * count
                self.assertIs(is_row(nested(levels, wrap, (WORD,) * inside)), True, (wrap, levels))
                self.assertIs(is_row(nested(levels, wrap, (WORD,) * (inside + 1))), False, (wrap, levels))

    def test_tokens_of_all_rows_of_an_either_count(self):
        self.assertIs(is_row((("either", ((WORD,) * 98, (WORD,) * 99)),)), True)
        self.assertIs(is_row((("either", ((WORD,) * 99, (WORD,) * 99)),)), False)

    def test_far_beyond_the_bounds(self):
        row = ()
        for level in range(12):
            row = (("either", (row, row, row, row)),)
        self.assertIs(is_row(row), False)


class Depth(unittest.TestCase):
    def test_rows_without_rows(self):
        self.assertEqual(depth(()), 0)
        self.assertEqual(depth((WORD, ("gap", " "), ("end",), ("stop", 40))), 0)

    def test_one_for_each_level(self):
        for wrap in WRAPS:
            for levels in range(15):
                self.assertEqual(depth(nested(levels, wrap)), levels)
                self.assertEqual(depth(nested(levels, wrap, (WORD,))), levels)

    def test_the_greatest_counts(self):
        self.assertEqual(depth((("group", ()), ("hang", 1, (("group", ()),)), ("group", ()))), 2)
        self.assertEqual(depth((("either", (nested(3, in_group), (), nested(1, in_hang))), WORD)), 4)
        self.assertEqual(depth((("either", ((), (), (), nested(5, in_hang))),)), 6)
        self.assertEqual(depth(MIXED), 4)

    def test_a_whole_number(self):
        self.assertIs(type(depth(())), int)
        self.assertIs(type(depth(MIXED)), int)


class WordsOfRows(unittest.TestCase):
    def test_no_words(self):
        self.assertEqual(words_of(()), [])
        self.assertEqual(words_of((("gap", " "), ("end",), ("stop", 3), ("group", ()), ("either", ((), ())))), [])

    def test_in_their_order_and_of_all_rows(self):
        self.assertEqual(words_of(MIXED), ["one", "two", "three", "four", "five", "one", "six", "seven"])

    def test_a_word_as_often_as_it_stands(self):
        self.assertEqual(words_of((WORD, WORD, ("group", (WORD,)))), ["a", "a", "a"])

    def test_eithers_with_empty_rows(self):
        row = (("either", ((), (("word", "x"),), (), (("word", "y"), ("word", "z")))), ("word", "end"))
        self.assertEqual(words_of(row), ["x", "y", "z", "end"])

    def test_words_like_the_names_of_kinds(self):
        self.assertEqual(words_of((("word", "group"), ("word", "either"), ("word", "word"))), ["group", "either", "word"])

    def test_a_told_list_is_the_askers_own(self):
        for row in ((), MIXED):
            told = words_of(row)
            expected = list(told)
            self.assertIs(type(told), list)
            told.append("more")
            told[0] = "changed"
            self.assertEqual(words_of(row), expected)


if __name__ == "__main__":
    unittest.main()
