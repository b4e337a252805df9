import unittest

from helper import (FromBehind, best_one_by_one, choices_by_shape, deep_row, refusal, rows_by_chance, rows_of_size,
                    soon, texts_by_choices)
from linepress.best import pressed
from linepress.errors import LineError, NoChoice, NoPiece, NoRoom
from linepress.notation import read
from linepress.pieces import depth, is_row
from linepress.roads import roads
from linepress.setting import set_by
from linepress.texts import fits
from linepress.tokens import tokens


class Case(unittest.TestCase):
    def told(self, notation, width, text, choices):
        row = read(notation)
        self.assertEqual(pressed(row, width), (text, choices), (notation, width))
        self.hold(row, width, (text, choices))

    def hold(self, row, width, found):
        # What holds of all that is told, whatever the row is.
        self.assertIs(type(found), tuple)
        text, choices = found
        self.assertIs(type(text), str)
        self.assertIs(type(choices), tuple)
        for number in choices:
            self.assertIs(type(number), int)
        self.assertEqual(set_by(row, choices), text, (row, width))
        self.assertTrue(fits(text, width), (row, width))

    def refused(self, notation, width):
        self.assertEqual(refusal(pressed, read(notation), width), (NoRoom, None), (notation, width))


class SmallRows(Case):
    def test_the_row_of_no_pieces(self):
        for width in range(1, 41):
            self.told("", width, "", ())

    def test_plain_pieces(self):
        self.told("'abc", 3, "abc", ())
        self.told("'abc _ 'de", 3, "abc\nde", ())
        self.told("'abc . 'de", 40, "abc\nde", ())
        self.told("'ab / / 'c", 2, "ab\n\nc", ())
        self.told("/", 1, "\n", ())
        self.told("'ab @4 'c", 5, "ab  c", ())
        self.told("'ab @1 'c", 2, "ab\n c", ())

    def test_a_group(self):
        self.told("[ 'a _ 'bc ]", 4, "a bc", (0,))
        self.told("[ 'a _ 'bc ]", 3, "a\nbc", (1,))
        self.told("[ 'a . 'bc ]", 3, "abc", (0,))
        self.told("[ 'a / ]", 3, "a\n", (1,))
        self.told("[ 'a _ [ 'b _ 'c ] ]", 5, "a b c", (0,))
        self.told("[ 'a _ [ 'b _ 'c ] ]", 4, "a\nb c", (1, 0))
        self.told("[ 'a _ [ 'b _ 'c ] ]", 2, "a\nb\nc", (1, 1))

    def test_a_hang(self):
        self.told(">2 'a _ 'b < _ 'c", 4, "a\n  b\nc", ())
        self.told("[ >2 'a _ >1 'b _ 'c < < ]", 4, "a\n  b\n   c", (1,))
        self.told("[ >2 'a _ >1 'b _ 'c < < ]", 5, "a b c", (0,))

    def test_an_either(self):
        self.told("{ 'abc | 'ab | 'a }", 3, "abc", (0,))
        self.told("{ 'abc | 'ab | 'a }", 2, "ab", (1,))
        self.told("{ 'abc | 'ab | 'a }", 1, "a", (2,))
        self.told("{ 'abc | 'ab | }", 1, "", (2,))
        self.told("[ 'a { _ 'bcde | / 'e } ]", 3, "a\ne", (1, 1))

    def test_just_the_width_and_one_less(self):
        for width in range(1, 13):
            self.told("'" + "x" * width, width, "x" * width, ())
            if width > 1:
                self.refused("'" + "x" * width, width - 1)
        for width in range(1, 41):
            self.told(f"@{width}", width, " " * width, ())
            if width > 1:
                self.refused(f"@{width}", width - 1)

    def test_somewhat_beyond_the_bounds(self):
        self.told("[ 'a _ 'b ]", 60, "a b", (0,))
        self.assertEqual(pressed((("stop", 44), ("word", "abcdefghijklmn")), 60), (" " * 44 + "abcdefghijklmn", ()))
        self.assertEqual(pressed((("either", ((("end",),), (), (), (), ())),), 3), ("", (1,)))


class ThePriceDecides(Case):
    def test_fewer_lines_come_ahead_of_less_rag(self):
        self.told("{ 'abcd / 'abcd / 'a | / 'a }", 4, "\na", (1,))
        self.told("{ / 'a | 'abcd / 'abcd / 'a }", 4, "\na", (0,))
        self.told("{ / | 'abcd / 'abcd / }", 4, "\n", (0,))

    def test_of_as_many_lines_less_rag(self):
        self.told("{ 'a / 'z | 'abc / 'z | 'ab / 'z }", 4, "abc\nz", (1,))
        self.told("[ 'a _ ] 'bcd [ _ 'ef ]", 6, "a bcd\nef", (0, 1))

    def test_the_last_lines_length_counts_nothing(self):
        self.told("{ 'a / 'zzzz | 'ab / 'z }", 4, "ab\nz", (1,))
        self.told("{ 'ab / | 'abc / 'zzzz | 'ab / 'zzzz }", 4, "abc\nzzzz", (1,))
        self.told("{ 'ab / 'zzzz | 'abc / }", 4, "abc\n", (1,))

    def test_squares_are_summed(self):
        self.told("{ 'ab / 'abcde / 'z | 'abc / 'abc / 'zz }", 5, "abc\nabc\nzz", (1,))
        self.told("{ 'abc / 'abc / 'zz | 'ab / 'abcde / 'z }", 5, "abc\nabc\nzz", (0,))

    def test_what_is_dear_at_first_may_be_cheap_at_last(self):
        self.told("[ 'abc _ 'd ] [ _ 'ef _ 'g ]", 6, "abc\nd ef g", (1, 0))


class TheOrderDecides(Case):
    def test_last_lines_of_one_length(self):
        self.told("{ 'a | 'b }", 3, "a", (0,))
        self.told("{ 'aa / 'b | 'bb / 'a }", 3, "aa\nb", (0,))
        self.told("[ 'a ] [ 'b ]", 3, "ab", (0, 0))
        self.told("{ 'aaa / 'bb | 'aa / 'bbb } /", 5, "aaa\nbb\n", (0,))
        self.told("{ { | } | }", 3, "", (0, 0))

    def test_last_lines_of_unlike_lengths(self):
        self.told("{ 'a | 'bb }", 3, "a", (0,))
        self.told("{ 'bb | 'a }", 3, "bb", (0,))
        self.told("{ 'bb | 'ccc | 'a | }", 3, "bb", (0,))
        self.told("{ 'abcd | 'ccc | 'bb | 'a }", 3, "ccc", (1,))
        self.told("'x / { 'bb | | 'ccc }", 3, "x\nbb", (0,))
        self.told("{ 'bb | 'a } { 'b | 'aa }", 9, "bbb", (0, 0))
        self.told("{ 'a | 'bb } { 'aa | 'b }", 9, "aaa", (0, 0))
        self.told("{ 'aa / 'b | 'bb / }", 3, "aa\nb", (0,))
        self.told("{ 'aa / | 'bb / 'b }", 3, "aa\n", (0,))

    def test_an_earlier_place_decides_ahead_of_a_later_one(self):
        self.told("{ 'aa | 'a } { 'bb | 'bbb | 'b }", 3, "aab", (0, 2))
        self.told("{ 'aaaa | 'a } { 'bb | 'b | }", 4, "aaaa", (0, 2))

    def test_choices_of_unlike_lengths(self):
        self.told("{ { / | / | / | 'a } | 'bb }", 3, "a", (0, 3))
        self.told("{ { / | / | / | 'bb } | 'a }", 3, "bb", (0, 3))
        self.told("{ 'a | { 'a | 'bb } }", 3, "a", (0,))

    def test_the_price_comes_ahead_of_the_order(self):
        self.told("{ / 'a | 'a } { | }", 3, "a", (1, 0))
        self.told("{ 'b / 'aa | 'bb / 'a }", 3, "bb\na", (1,))


class AllChoices(Case):
    def check(self, row, widths):
        texts = texts_by_choices(row)
        for width in widths:
            expected = best_one_by_one(texts, width)
            if expected is None:
                self.assertEqual(refusal(pressed, row, width), (NoRoom, None), (row, width))
            elif pressed(row, width) != expected:
                self.fail((row, width, pressed(row, width), expected))
        return len(texts)

    def test_all_small_rows(self):
        leaves = (("word", "a"), ("word", "bc"), ("gap", " "), ("end",), ("stop", 1))
        for size in range(4):
            for row in rows_of_size(size, leaves):
                self.check(row, range(1, 41))

    def test_all_rows_of_four_and_five_tokens_of_few_kinds(self):
        for leaves in ((("word", "a"), ("word", "bc"), ("gap", " ")), (("word", "a"), ("gap", ""), ("end",))):
            for size in (4, 5):
                for row in rows_of_size(size, leaves):
                    self.check(row, (1, 2, 3, 5, 40))

    def test_rows_at_all_widths(self):
        count = 0
        for row in rows_by_chance(seed=61, count=250, size=40):
            self.assertLess(len(choices_by_shape(row)), 3000)
            count += self.check(row, range(1, 41))
        self.assertGreater(count, 3000)

    def test_rows_of_short_words_where_many_cost_the_same(self):
        count = 0
        for row in rows_by_chance(seed=62, count=300, size=36, deep=3, longest=2, furthest=4):
            count += self.check(row, range(1, 14))
        self.assertGreater(count, 2000)

    def test_rows_of_great_depth(self):
        for row in rows_by_chance(seed=63, count=100, size=44, deep=12, longest=3, furthest=6):
            self.check(row, (1, 3, 5, 8, 11, 16, 25, 40))


class Refusals(Case):
    def test_rows_that_do_not_fit(self):
        self.refused("'ab", 1)
        self.refused("'ab _ 'c", 1)
        self.refused("'a _ 'bc", 1)
        self.refused("[ 'a _ 'bc ]", 1)
        self.refused("{ 'ab | 'cd | 'ef | 'gh }", 1)
        self.refused(">2 / <", 1)
        self.refused(">2 / < / 'a", 1)
        self.refused("@2 @0", 1)
        self.refused("'a [ 'b ] 'c", 2)
        self.refused("[ 'a / 'bcd ]", 2)

    def test_rows_that_fit_no_width(self):
        for width in range(1, 41):
            self.refused("'abcdefghijkl 'abcdefghijkl 'abcdefghijkl 'abcdefghijkl", width)
            self.refused(">12 >12 >12 >12 _ < < < <", width)
            self.refused("@40 'a", width)
            self.refused("[ @40 'a ]", width)
            self.refused("{ @40 'a | @40 'bc }", width)
        self.told("@40 { 'a | }", 40, " " * 40, (1,))

    def test_the_refusal_stands_under_line_error_and_is_no_other(self):
        for row, width in ((read("'ab"), 1), (read("{ 'ab | 'cd }"), 1), (read("@40 'a"), 40)):
            with self.assertRaises(NoRoom) as told:
                pressed(row, width)
            self.assertIsInstance(told.exception, LineError)
            self.assertIsInstance(told.exception, ValueError)
            self.assertNotIsInstance(told.exception, (NoChoice, NoPiece))

    def test_it_is_refused_just_where_there_are_no_roads(self):
        for row in rows_by_chance(seed=64, count=80, size=60, longest=12, furthest=40):
            for width in range(1, 41):
                self.assertEqual(refusal(pressed, row, width) is None, roads(row, width) != [], (row, width))


class LargeRows(Case):
    def as_from_behind(self, row, widths):
        self.assertTrue(is_row(row))
        answered = 0
        for width in widths:
            found = FromBehind(row, width).roads()
            if not found:
                self.assertEqual(soon(self, refusal, pressed, row, width), (NoRoom, None))
                continue
            told = soon(self, pressed, row, width)
            self.hold(row, width, told)
            self.assertEqual(told[1], min(road[1:] for road in found)[2], (row, width))
            answered += 1
        return answered

    def test_twenty_four_groups(self):
        for notation in ("[ _ 'a ]", "[ 'abc _ 'de ]", "[ 'a . ]", "[ ]", "[ 'a _ 'b / ]"):
            self.assertGreater(self.as_from_behind(read(notation) * 24, range(1, 41)), 20)

    def test_twenty_four_eithers(self):
        for notation in ("{ 'a | 'bb }", "{ | }", "{ 'a / | 'bb _ | }", "{ . | _ 'a }", "{ 'ab | 'ab | / }"):
            self.assertGreater(self.as_from_behind(read(notation) * 24, range(1, 41)), 10)

    def test_groups_and_eithers_by_turns(self):
        self.as_from_behind(read("[ 'ab ] { 'c | / }") * 24, range(1, 41))
        self.as_from_behind(read("[ _ 'ab ]") * 12 + read("{ 'c | 'de _ | . }") * 12, range(1, 41))
        self.as_from_behind(read("[ 'ab _ ] { 'c | 'de _ | / }") * 16, range(1, 41))

    def test_what_is_told_of_many_alike(self):
        self.assertEqual(soon(self, pressed, read("{ 'a | 'a }") * 24, 40), ("a" * 24, (0,) * 24))
        self.assertEqual(soon(self, pressed, read("[ 'a . ]") * 24, 24), ("a" * 24, (0,) * 24))
        self.assertEqual(soon(self, pressed, read("[ 'a . ]") * 24, 12),
                         ("a" * 12 + "\n" + "a" * 12, (0,) * 11 + (1,) + (0,) * 12))
        self.assertEqual(soon(self, pressed, read("{ / | 'a / }") * 33, 1), ("a\n" * 33, (1,) * 33))

    def test_forty_nine_words_with_a_gap_in_a_group_between(self):
        words = [("word", "abcdefghijkl"[:1 + (number * 5) % 7]) for number in range(49)]
        row = (words[0],)
        for word in words[1:]:
            row = row + read("[ _ ]") + (word,)
        self.assertEqual(len(tokens(row)), 193)
        self.assertEqual(self.as_from_behind(row, range(1, 41)), 34)
        self.assertEqual(soon(self, pressed, row, 40)[0].split(), [word[1] for word in words])

    def test_words_of_one_length_fill_their_lines(self):
        row = read("'abc " + "[ _ ] 'abc " * 47 + "[ _ ] 'abc")
        text, choices = soon(self, pressed, row, 27)
        # Seven words are twenty-seven signs: seven full lines.
        self.assertEqual(text, "\n".join([" ".join(["abc"] * 7)] * 7))
        self.assertEqual(choices, ((0,) * 6 + (1,)) * 6 + (0,) * 6)

    def test_sixty_three_ends_against_one_more_full_lines_of_blanks(self):
        ends = (("end",),) * 63
        for width in range(1, 41):
            full = (("stop", width), ("end",)) * 64
            row = (("either", (ends, full)),)
            self.assertTrue(is_row(row))
            self.assertEqual(soon(self, pressed, row, width), ("\n" * 63, (0,)))
            self.assertEqual(soon(self, pressed, (("either", (full, ends)),), width), ("\n" * 63, (1,)))
            as_many = (("stop", width), ("end",)) * 63
            self.assertEqual(soon(self, pressed, (("either", (ends, as_many)),), width),
                             ((" " * width + "\n") * 63, (1,)))

    def test_rows_of_two_hundred_tokens(self):
        self.assertEqual(soon(self, pressed, (("gap", " "),) * 200, 40), ("\n" * 200, ()))
        self.assertEqual(soon(self, pressed, (("group", (("gap", ""),) * 198),), 40), ("", (0,)))
        self.assertEqual(soon(self, pressed, (("group", (("gap", " "),) * 198),), 40), ("\n" * 198, (1,)))
        self.assertEqual(soon(self, refusal, pressed, (("word", "a"),) * 200, 40), (NoRoom, None))
        for row in rows_by_chance(seed=65, count=12, size=200, deep=12):
            self.as_from_behind(row, (2, 5, 9, 17, 28, 40))

    def test_large_rows_whose_last_line_has_many_lengths(self):
        answered = 0
        for row in rows_by_chance(seed=66, count=20, size=130, deep=6, longest=4):
            loose = tuple(("group", (piece,)) if piece[0] == "gap" else piece
                          for piece in row if piece[0] not in ("end", "stop"))
            answered += self.as_from_behind(loose, (6, 13, 27, 40))
        self.assertGreater(answered, 50)

    def test_rows_of_depth_twelve(self):
        row = deep_row()
        self.assertEqual((depth(row), len(tokens(row))), (12, 198))
        self.as_from_behind(row, range(1, 41))
        for ahead, behind in (("[ 'a _", "_ 'b ]"), ("{ 'a _ | 'b", "_ 'c }"), ("[ >1 . 'a", "_ < 'b ]"),
                              ("[ { 'a | _ 'b", "} _ ]")):
            levels = 12 // depth(read(f"{ahead} {behind}"))
            row = read(" ".join([ahead] * levels + [behind] * levels))
            self.assertEqual(depth(row), 12)
            self.as_from_behind(row, range(1, 41))


if __name__ == "__main__":
    unittest.main()
