import unittest

from helper import ReadFromBehind, repeated, rows_by_chance, rows_of_size, soon, texts_by_choices
from linepress.back import choices_of
from linepress.best import pressed
from linepress.notation import read
from linepress.pieces import depth, is_row
from linepress.roads import roads
from linepress.setting import set_by
from linepress.tokens import tokens


def near(text):
    # The text, cut or gone on with, or unlike it at one place.
    found = {text[:length] for length in range(len(text) + 1)}
    for sign in ("a", " ", "\n", "~"):
        for at in range(len(text) + 1):
            found.add(text[:at] + sign + text[at:])
            found.add(text[:at] + sign + text[at + 1:])
    for at in range(len(text)):
        found.add(text[:at] + text[at + 1:])
    return sorted(found)


def first_choices(texts):
    first = {}
    for choices, text in texts.items():
        first[text] = min(first.get(text, choices), choices)
    return first


class Case(unittest.TestCase):
    def told(self, notation, text, choices):
        row = read(notation)
        found = choices_of(row, text)
        self.assertEqual(found, choices, (notation, text))
        self.assertIs(type(found), tuple)
        for number in found:
            self.assertIs(type(number), int)
        self.assertEqual(set_by(row, found), text, (notation, text))

    def none_for(self, notation, *texts):
        for text in texts:
            self.assertIs(choices_of(read(notation), text), None, (notation, text))


class PlainPieces(Case):
    def test_the_row_of_no_pieces(self):
        self.told("", "", ())
        self.none_for("", "\n", " ", "a", "\n\n", "  ", " \n")

    def test_the_empty_text(self):
        self.told("[ ]", "", (0,))
        self.told(">3 <", "", ())
        self.told("@0", "", ())
        self.told("{ 'a | }", "", (1,))
        self.told("{ | }", "", (0,))
        self.told("[ . ]", "", (0,))
        for notation in ("'a", "_", ".", "/", "@1", "[ _ ]", "{ 'a | _ }", "[ 'a ]", ">1 / <"):
            self.none_for(notation, "")

    def test_a_line_feed(self):
        self.told("/", "\n", ())
        self.told("_", "\n", ())
        self.told(".", "\n", ())
        self.told("[ / ]", "\n", (1,))
        self.told("[ . ]", "\n", (1,))
        self.told("{ | / }", "\n", (1,))
        self.told(">0 / <", "\n", ())
        for notation in ("'a", "@0", "@1", ">1 / <", "/ /", "[ ]", "{ 'a | }", "'a /"):
            self.none_for(notation, "\n")

    def test_a_blank(self):
        self.told("[ _ ]", " ", (0,))
        self.told("@1", " ", ())
        self.told("[ @1 ]", " ", (0,))
        self.told("{ / | @1 }", " ", (1,))
        for notation in ("_", ".", "/", "'a", "[ . ]", "@0", "@2", ">1 / <", "[ ]", "{ | / }"):
            self.none_for(notation, " ")

    def test_words(self):
        self.told("'ab 'c", "abc", ())
        self.told("'ab _ 'c", "ab\nc", ())
        self.none_for("'ab 'c", "", "a", "ab", "ab c", "ab\nc", "abcc", "abc ", "abc\n", " abc", "\nabc", "abd", "aBc")
        self.none_for("'ab _ 'c", "ab c", "abc", "ab\n c", "ab\n\nc", "ab \nc", "ab\nc\n", "ab\n", "ab", "ab\nd")

    def test_a_stop_ahead_of_at_and_beyond_its_column(self):
        self.told("'ab @4 'c", "ab  c", ())
        self.none_for("'ab @4 'c", "abc", "ab c", "ab   c", "ab\n    c", "ab  ", "ab  c ")
        self.told("'ab @2 'c", "abc", ())
        self.none_for("'ab @2 'c", "ab\n  c", "ab c", "ab\nc")
        self.told("'ab @1 'c", "ab\n c", ())
        self.none_for("'ab @1 'c", "abc", "ab\nc", "ab\n  c", "ab c")
        self.told("'ab @0 'c", "ab\nc", ())
        self.told("@40", " " * 40, ())
        self.none_for("@40", " " * 39, " " * 41)

    def test_the_column_of_a_stop_hangs_on_the_line_it_stands_in(self):
        self.told("'abc / 'd @2 'e", "abc\nd e", ())
        self.told("{ 'a | 'ab | 'abc } @2 'e", "a e", (0,))
        self.told("{ 'a | 'ab | 'abc } @2 'e", "abe", (1,))
        self.told("{ 'a | 'ab | 'abc } @2 'e", "abc\n  e", (2,))
        self.none_for("{ 'a | 'ab | 'abc } @2 'e", "ab\n  e", "a\n  e", "abce", "ab e", "abc\n e")

    def test_a_stop_within_hangs(self):
        self.told(">3 'ab @1 'c <", "ab\n c", ())
        self.told(">3 'ab @1 'c / 'd <", "ab\n c\n   d", ())
        self.told(">3 / @5 'c <", "\n     c", ())
        self.told(">3 / @3 'c <", "\n   c", ())
        self.told(">3 / @2 'c <", "\n   \n  c", ())
        self.none_for(">3 'ab @1 'c <", "ab\n    c", "ab\n   c", "ab\nc")

    def test_hangs_within_hangs(self):
        self.told(">2 'a _ >3 'b _ 'c < _ 'd < _ 'e", "a\n  b\n     c\n  d\ne", ())
        self.none_for(">2 'a _ >3 'b _ 'c < _ 'd < _ 'e",
                      "a\n  b\n   c\n  d\ne", "a\n  b\n     c\n     d\ne", "a\nb\n     c\n  d\ne",
                      "a\n  b\n     c\n  d\n  e", "a\n  b\n     c\n  d")
        self.told(">2 [ 'a _ >3 'b _ 'c < _ 'd ] < [ _ 'e ]", "a b c d e", (0, 0))
        self.told(">2 [ 'a _ >3 'b _ 'c < _ 'd ] < [ _ 'e ]", "a\n  b\n     c\n  d e", (1, 0))
        self.told(">12 >12 >12 / < < < 'a", "\n" + " " * 36 + "a", ())


class Holders(Case):
    def test_groups_on_one_line(self):
        row = "[ 'a _ [ 'b _ 'c ] ]"
        self.told(row, "a b c", (0,))
        self.told(row, "a\nb c", (1, 0))
        self.told(row, "a\nb\nc", (1, 1))
        self.none_for(row, "a b\nc", "a b", "a\nb ", "abc", "a b c\n", "a\nb\nc ")
        self.told("[ [ [ 'a _ ] _ ] _ ]", "a   ", (0,))
        self.told("[ [ [ 'a _ ] _ ] _ ]", "a  \n", (1, 0))
        self.told("[ [ [ 'a _ ] _ ] _ ]", "a \n\n", (1, 1, 0))
        self.none_for("[ [ [ 'a _ ] _ ] _ ]", "a\n  ", "a\n\n ", "a \n ")

    def test_ends_on_one_line(self):
        self.told("[ 'a / 'b ]", "a\nb", (1,))
        self.none_for("[ 'a / 'b ]", "ab", "a b", "a")
        self.told("[ 'a _ 'b / ]", "a\nb\n", (1,))
        self.none_for("[ 'a _ 'b / ]", "a b\n", "a b")
        self.told("[ 'a _ [ / ] ]", "a\n\n", (1, 1))
        self.none_for("[ 'a _ [ / ] ]", "a \n", "a ", "a\n")
        self.none_for("[ 'a _ >2 / < 'b ]", "a \n  b", "a b")

    def test_passed_stops_on_one_line(self):
        self.told("[ 'ab @1 'c ]", "ab\n c", (1,))
        self.told("[ 'ab @2 'c ]", "abc", (0,))
        self.told("[ 'ab @3 'c ]", "ab c", (0,))
        self.told("[ 'a _ 'b @2 ]", "a\nb ", (1,))
        self.none_for("[ 'a _ 'b @2 ]", "a b", "a b\n  ")
        self.none_for("[ _ 'ab @1 'c ]", " ab\n c")
        self.told("[ _ 'ab @1 'c ]", "\nab\n c", (1,))

    def test_an_either_on_one_line_and_broken(self):
        self.told("[ { 'a _ | 'b / } 'c ]", "a c", (0, 0))
        self.told("[ { 'a _ | 'b / } 'c ]", "a\nc", (1, 0))
        self.told("[ { 'a _ | 'b / } 'c ]", "b\nc", (1, 1))
        self.none_for("[ { 'a _ | 'b / } 'c ]", "b c", "bc", "ac")
        self.told("{ 'a | 'b | 'c | 'd }", "d", (3,))
        self.none_for("{ 'a | 'b | 'c | 'd }", "e", "", "ab", "dd")

    def test_nothing_is_left_out_for_its_length(self):
        word = "abcdefghijkl"
        self.told(f"'{word} 'x 'y 'z 'z [ _ 'a ] " + f"[ _ '{word} ] " * 4 + "'z",
                  f"{word}xyzz a {word} {word} {word} {word}z", (0,) * 5)

    def test_somewhat_beyond_the_bounds(self):
        row = (("either", ((), (), (), (), (("word", "a"),))), ("stop", 44), ("word", "abcdefghijklmn"))
        self.assertEqual(choices_of(row, "a" + " " * 43 + "abcdefghijklmn"), (4,))
        self.assertEqual(choices_of((("either", ((("word", "a"),),)),), "a"), (0,))


class TheFirstOfSeveral(Case):
    def test_by_hand(self):
        self.told("{ 'a | 'a | 'a }", "a", (0,))
        self.told("{ 'b | 'a | 'a }", "a", (1,))
        self.told("{ 'b | 'a | { 'a | 'a } }", "a", (1,))
        self.told("{ { 'b | 'a } | 'a }", "a", (0, 1))
        self.told("{ 'a | 'aa } { 'aa | 'a }", "aaa", (0, 0))
        self.told("{ 'aa | 'a } { 'a | 'aa }", "aaa", (0, 0))
        self.told("{ 'aa | 'a } { 'aa | 'b | 'a }", "aaa", (0, 2))
        self.told("[ 'a ] [ 'b ]", "ab", (0, 0))
        self.told("[ [ [ 'a ] ] ]", "a", (0,))
        self.told("[ 'a [ / ] ]", "a\n", (1, 1))
        self.told("{ [ _ ] | / | . }", "\n", (0, 1))
        self.told("{ / | [ _ ] }", "\n", (0,))

    def test_what_comes_first_may_lead_nowhere(self):
        self.told("{ 'a | 'ab } { 'c | 'd }", "abd", (1, 1))
        self.told("{ 'a | 'ab } { 'b | } 'c", "abc", (0, 0))
        self.told("{ 'a | 'ab } { 'c | 'bb | } 'c", "abc", (1, 2))
        self.none_for("{ 'a | 'ab } { 'c | 'd }", "abb", "abc ", "a", "ab")


class AllChoices(Case):
    def check(self, row, more):
        first = first_choices(texts_by_choices(row))
        for text in list(first)[:more]:
            for other in near(text):
                if choices_of(row, other) != first.get(other):
                    self.fail((row, other, choices_of(row, other), first.get(other)))
        for text in first:
            if choices_of(row, text) != first[text]:
                self.fail((row, text, choices_of(row, text), first[text]))

    def test_all_small_rows(self):
        leaves = (("word", "a"), ("word", "aa"), ("gap", " "), ("end",), ("stop", 1))
        for size in range(4):
            for row in rows_of_size(size, leaves):
                self.check(row, 99)

    def test_all_rows_of_four_and_five_tokens_of_few_kinds(self):
        for leaves in ((("word", "a"), ("gap", " ")), (("gap", ""), ("stop", 1))):
            for size in (4, 5):
                for row in rows_of_size(size, leaves):
                    self.check(row, 2)

    def test_rows_by_chance(self):
        count = 0
        for row in rows_by_chance(seed=71, count=200, size=36, longest=3):
            self.check(row, 3)
            count += len(texts_by_choices(row))
        self.assertGreater(count, 2000)

    def test_rows_where_many_choices_set_one_text(self):
        several = 0
        for row in rows_by_chance(seed=72, count=300, size=30, longest=1, furthest=3):
            same = tuple(("word", "a") if piece[0] == "word" else piece for piece in row)
            self.check(same, 3)
            texts = texts_by_choices(same)
            several += len(texts) - len(set(texts.values()))
        self.assertGreater(several, 500)

    def test_rows_of_great_depth(self):
        for row in rows_by_chance(seed=73, count=60, size=44, deep=12, longest=3, furthest=6):
            self.check(row, 2)


class LargeRows(Case):
    def as_from_behind(self, row, *texts):
        self.assertTrue(is_row(row))
        found = []
        for text in texts:
            told = soon(self, choices_of, row, text)
            self.assertEqual(told, ReadFromBehind(row, text).choices(), (row, text))
            if told is not None:
                self.assertEqual(set_by(row, told), text)
            found.append(told)
        return found

    def test_fifty_groups_of_a_word(self):
        for word in ("'a", "'ab", "'abcdefghijkl"):
            row = read(f"[ {word} ]") * 50
            text = word[1:] * 50
            self.assertEqual(soon(self, choices_of, row, text), (0,) * 50)
            for other in (text + "a", text + " ", text + "\n", text[:-1], text[1:], "a" + text):
                if other != text:
                    self.assertIs(soon(self, choices_of, row, other), None)

    def test_fifty_groups_of_a_gap(self):
        row = read("[ _ ] [ . ]") * 33
        self.assertEqual(soon(self, choices_of, row, " " * 33), (0,) * 66)
        self.assertEqual(soon(self, choices_of, row, "\n" * 66), (1,) * 66)
        self.assertEqual(soon(self, choices_of, row, " \n" * 33), (0, 1) * 33)
        # Each gap with a blank writes one sign, so thirty-three are the fewest.
        self.assertEqual(soon(self, choices_of, row, "\n " * 16 + "\n"), ((1, 0, 0, 0) * 16 + (1, 0)))
        self.assertEqual(soon(self, choices_of, row, "\n " * 16), None)
        self.as_from_behind(row, "\n \n" * 22, " \n" * 20 + "\n" * 26, "\n" * 67, " " * 34)

    def test_many_choices_that_write_the_same_beginning(self):
        row = read("{ 'a | 'aa | 'aaa | }") * 20
        self.as_from_behind(row, *["a" * count for count in range(0, 63, 3)])
        self.as_from_behind(row, *["a" * count + "b" for count in range(0, 63, 6)])
        row = read("{ 'aaa | 'aa | 'a }") * 25
        self.as_from_behind(row, *["a" * count for count in range(0, 80, 3)])
        row = read("{ | }") * 49
        self.assertEqual(self.as_from_behind(row, "", "a", " ", "\n"), [(0,) * 49, None, None, None])
        row = read("{ [ _ ] | @3 | / | }") * 17
        self.as_from_behind(row, "", " " * 5, " " * 17, "   \n" * 4, "\n" * 9, "\n" * 17, "\n" * 18, " \n" * 8 + "x")
        row = read("{ 'a | 'a 'a } [ . ] { 'a | 'aa }") * 14
        self.as_from_behind(row, "a" * 28, "a" * 41, "a" * 57, "a" * 30 + "\n" + "a" * 11, "a" * 27, "aa\n" * 13 + "aa")

    def test_many_eithers_within_one_another(self):
        inner = "'a"
        for level in range(6):
            inner = "{ 'a [ " + inner + " . ] | 'aa | 'a }"
        row = read(inner)
        self.assertEqual(depth(row), 12)
        self.as_from_behind(row, *["a" * count for count in range(12)])
        self.as_from_behind(row, *["a" * count + "\n" * (12 - count) for count in range(12)])

    def test_rows_of_two_hundred_tokens(self):
        self.assertEqual(soon(self, choices_of, (("gap", " "),) * 200, "\n" * 200), ())
        self.assertEqual(soon(self, choices_of, (("gap", " "),) * 200, "\n" * 199), None)
        self.assertEqual(soon(self, choices_of, (("group", (("gap", " "),) * 198),), " " * 198), (0,))
        answered = 0
        for row in rows_by_chance(seed=74, count=12, size=200, deep=12):
            for road in roads(row, 40):
                text = set_by(row, road[3])
                found = self.as_from_behind(row, text, text + "a", text[:-1], text.replace("a", "b", 1), text + "\n")
                self.assertIsNot(found[0], None)
                answered += 1
        self.assertGreater(answered, 8)

    def test_large_rows_that_are_pressed(self):
        for notation in ("[ _ 'a ]", "[ 'a _ 'b / ]", "{ 'a / | 'bb _ | }", "{ . | _ 'a }",
                         "[ 'ab _ ] { 'c | 'de _ | / }"):
            row = repeated(notation)
            text = pressed(row, 17)[0]
            self.assertIsNot(self.as_from_behind(row, text, text + "\n", text[:-1])[0], None)

    def test_texts_of_forty_thousand_signs(self):
        row = read("{ 'a | 'aa | 'aaa | } { _ | [ _ ] }") * 12
        for text in ("a" * 40000, "\n" * 40000, " " * 40000, "a\n" * 20000):
            self.assertIs(soon(self, choices_of, row, text), None)


class Told(Case):
    def test_the_row_and_the_answer_stay_as_they_are(self):
        for row in rows_by_chance(seed=75, count=30, size=40):
            before = tokens(row)
            for choices, text in list(texts_by_choices(row).items())[:5]:
                told = choices_of(row, text)
                self.assertLessEqual(told, choices)
                self.assertEqual(choices_of(row, text + "~"), None)
                self.assertEqual(choices_of(row, text), told)
            self.assertEqual(tokens(row), before)


if __name__ == "__main__":
    unittest.main()
