import itertools
import unittest

from helper import choices_by_shape, rows_by_chance, rows_of_size, set_token_by_token, texts_by_choices
from linepress.errors import LineError, NoChoice, NoPiece, NoRoom
from linepress.setting import earlier, set_by
from linepress.tokens import tokens

A = ("word", "a")
BC = ("word", "bc")
GAP = ("gap", " ")
NO_BLANK = ("gap", "")
END = ("end",)
GREAT = 10 ** 30 - 1

LEAVES = (A, BC, GAP, END, ("stop", 1))


def group(*row):
    return ("group", row)


def hang(number, *row):
    return ("hang", number, row)


def either(*rows):
    return ("either", rows)


def stop(column):
    return ("stop", column)


class Case(unittest.TestCase):
    def told(self, row, choices, text):
        before = (tokens(row), tuple(choices))
        found = set_by(row, choices)
        self.assertEqual(found, text, (row, choices))
        self.assertIs(type(found), str)
        self.assertEqual((tokens(row), choices), before)

    def refused(self, row, choices):
        with self.assertRaises(NoChoice, msg=(row, choices)) as caught:
            set_by(row, choices)
        self.assertIsInstance(caught.exception, LineError)
        self.assertIsInstance(caught.exception, ValueError)
        self.assertNotIsInstance(caught.exception, (NoPiece, NoRoom))


class PlainPieces(Case):
    def test_the_row_of_no_pieces(self):
        self.told((), (), "")

    def test_words(self):
        self.told((A,), (), "a")
        self.told((A, BC, A), (), "abca")
        self.told((("word", "abcdefghijkl"),), (), "abcdefghijkl")
        self.told((("word", "'_/@[]"),), (), "'_/@[]")

    def test_words_on_one_line(self):
        self.told((group(A, BC),), (0,), "abc")
        self.told((group(A, BC),), (1,), "abc")

    def test_gaps_broken(self):
        self.told((GAP,), (), "\n")
        self.told((NO_BLANK,), (), "\n")
        self.told((A, GAP, BC, NO_BLANK, A), (), "a\nbc\na")
        self.told((A, GAP, GAP, A, GAP), (), "a\n\na\n")
        self.told((group(A, GAP, BC, NO_BLANK, A),), (1,), "a\nbc\na")

    def test_gaps_on_one_line(self):
        self.told((group(GAP),), (0,), " ")
        self.told((group(NO_BLANK),), (0,), "")
        self.told((group(A, GAP, BC, NO_BLANK, A),), (0,), "a bca")
        self.told((group(GAP, A, GAP, GAP, A, GAP),), (0,), " a  a ")

    def test_ends(self):
        self.told((END,), (), "\n")
        self.told((END, END), (), "\n\n")
        self.told((A, END, BC), (), "a\nbc")
        self.told((group(A, END, BC),), (1,), "a\nbc")

    def test_a_stop_ahead_of_its_column(self):
        self.told((stop(3),), (), "   ")
        self.told((A, stop(4), BC), (), "a   bc")
        self.told((A, stop(40), BC), (), "a" + " " * 39 + "bc")
        self.told((group(A, stop(4), BC),), (0,), "a   bc")
        self.told((group(A, stop(4), BC),), (1,), "a   bc")

    def test_a_stop_just_at_its_column(self):
        self.told((stop(0),), (), "")
        self.told((BC, stop(2), A), (), "bca")
        self.told((group(BC, stop(2), A),), (0,), "bca")
        self.told((stop(2), stop(2)), (), "  ")

    def test_a_stop_beyond_its_column(self):
        self.told((BC, stop(1), A), (), "bc\n a")
        self.told((BC, stop(0), A), (), "bc\na")
        self.told((stop(4), stop(3), A), (), "    \n   a")
        self.told((group(BC, stop(1), A),), (1,), "bc\n a")

    def test_the_column_is_that_of_the_last_line(self):
        self.told((BC, BC, END, A, stop(3), A), (), "bcbc\na  a")
        self.told((A, GAP, BC, stop(1), A, stop(4), A), (), "a\nbc\n a  a")
        self.told((hang(2, END), stop(3), A), (), "\n   a")
        self.told((group(A, GAP, BC), stop(4), A), (0,), "a bca")
        self.told((group(A, GAP, BC), stop(4), A), (1,), "a\nbc  a")


class Groups(Case):
    def test_a_choice_for_each_group(self):
        row = (group(A, GAP, A), group(BC, GAP, BC))
        self.told(row, (0, 0), "a abc bc")
        self.told(row, (0, 1), "a abc\nbc")
        self.told(row, (1, 0), "a\nabc bc")
        self.told(row, (1, 1), "a\nabc\nbc")

    def test_what_stands_beside_a_group_stays_broken(self):
        self.told((A, GAP, group(A, GAP, A), GAP, A), (0,), "a\na a\na")

    def test_the_empty_group_takes_its_choice(self):
        self.told((group(),), (0,), "")
        self.told((group(),), (1,), "")
        self.refused((group(),), ())

    def test_groups_in_broken_groups(self):
        row = (group(A, GAP, group(A, GAP, A), GAP, A),)
        self.told(row, (0,), "a a a a")
        self.told(row, (1, 0), "a\na a\na")
        self.told(row, (1, 1), "a\na\na\na")

    def test_groups_on_one_line_take_no_choice(self):
        row = (group(A, group(GAP, group(GAP), A), group()), group(GAP))
        self.told(row, (0, 1), "a  a\n")
        self.told(row, (0, 0), "a  a ")
        self.refused(row, (0, 0, 0))
        self.refused(row, (0,))
        self.told(row, (1, 0, 0, 1), "a  a\n")
        self.told(row, (1, 1, 1, 1, 0), "a\n\na ")

    def test_a_group_on_one_line_that_holds_a_hang_and_an_either_with_groups(self):
        row = (group(hang(2, A, group(GAP), either((group(GAP, A),), (BC,)))),)
        self.told(row, (0, 0), "a  a")
        self.told(row, (0, 1), "a bc")
        self.told(row, (1, 0, 0, 1), "a \n  a")


class Hangs(Case):
    def test_each_piece_within_a_hang(self):
        self.told((hang(3, A),), (), "a")
        self.told((hang(3, A, GAP, BC),), (), "a\n   bc")
        self.told((hang(3, A, NO_BLANK, BC),), (), "a\n   bc")
        self.told((hang(3, A, END, BC),), (), "a\n   bc")
        self.told((hang(3, A, group(GAP, BC)),), (0,), "a bc")
        self.told((hang(3, A, group(GAP, BC)),), (1,), "a\n   bc")
        self.told((hang(3, A, either((GAP,), (END, A), (BC,))),), (0,), "a\n   ")
        self.told((hang(3, A, either((GAP,), (END, A), (BC,))),), (1,), "a\n   a")
        self.told((hang(3),), (), "")

    def test_what_stands_beside_a_hang(self):
        self.told((END, A, hang(2, END, A), END, A), (), "\na\n  a\na")
        self.told((hang(2, A, GAP), A, GAP, A), (), "a\n  a\na")

    def test_hangs_of_nought_and_of_twelve(self):
        self.told((hang(0, A, GAP, A),), (), "a\na")
        self.told((hang(12, A, GAP, A),), (), "a\n" + " " * 12 + "a")

    def test_hangs_within_hangs(self):
        self.told((hang(2, GAP, hang(3, GAP, hang(0, GAP), GAP), GAP),), (), "\n  \n     \n     \n     \n  ")
        self.told((hang(2, GAP, group(hang(3, GAP, A)), GAP, A), GAP, A), (1,), "\n  \n     a\n  a\na")

    def test_a_stop_in_hangs(self):
        self.told((hang(3, stop(1), A),), (), " a")
        self.told((hang(3, END, stop(3), A),), (), "\n   a")
        self.told((hang(3, END, stop(5), A),), (), "\n     a")
        self.told((hang(3, END, stop(1), A),), (), "\n   \n a")
        self.told((hang(3, BC, stop(1), A, END, A),), (), "bc\n a\n   a")
        self.told((hang(3, hang(4, END, A, stop(6), A), END),), (), "\n       a\n      a\n   ")
        self.told((hang(3, BC, group(stop(0), A)),), (1,), "bc\na")

    def test_a_hang_on_one_line(self):
        self.told((group(A, hang(4, GAP, BC, stop(6)), A),), (0,), "a bc  a")
        self.refused((group(A, hang(4, END)),), (0,))
        self.refused((group(hang(4, A, stop(0))),), (0,))


class Eithers(Case):
    def test_just_the_row_of_the_choice(self):
        for count in (2, 3, 4):
            rows = tuple((("word", "w" + str(number)), GAP) for number in range(count))
            for number in range(count):
                self.told((A, either(*rows), BC), (number,), f"aw{number}\nbc")

    def test_empty_rows(self):
        self.told((either((), ()),), (0,), "")
        self.told((either((), ()),), (1,), "")

    def test_an_either_takes_its_choice_ahead_of_those_within(self):
        row = (either((group(GAP),), (either((A,), (BC,)), group(GAP))),)
        self.told(row, (0, 0), " ")
        self.told(row, (0, 1), "\n")
        self.told(row, (1, 0, 0), "a ")
        self.told(row, (1, 1, 1), "bc\n")
        self.refused(row, (0, 0, 0))
        self.refused(row, (1, 0))

    def test_an_either_on_one_line(self):
        row = (group(either((A, GAP, A), (BC,), (END,), (BC, stop(1)))),)
        self.told(row, (0, 0), "a a")
        self.told(row, (0, 1), "bc")
        self.refused(row, (0, 2))
        self.refused(row, (0, 3))
        self.told(row, (1, 0), "a\na")
        self.told(row, (1, 1), "bc")
        self.told(row, (1, 2), "\n")
        self.told(row, (1, 3), "bc\n ")
        self.refused(row, (0,))

    def test_rows_that_are_left_out_take_no_choice_and_refuse_nothing(self):
        row = (group(either((A,), (END, either((), ()), stop(0)))), either((), ()))
        self.told(row, (0, 0, 1), "a")
        self.refused(row, (0, 1, 0, 1))
        self.told(row, (1, 1, 0, 1), "\n")

    def test_in_a_hang(self):
        self.told((hang(2, either((A,), (GAP, hang(1, GAP)))), GAP), (1,), "\n  \n   \n")

    def test_somewhat_beyond_the_bounds(self):
        rows = tuple((("word", "w" + str(number)),) for number in range(6))
        self.told((either(*rows), stop(45), hang(14, GAP), A), (5,), "w5" + " " * 43 + "\n" + " " * 14 + "a")
        self.told((either(*rows[:1]),), (0,), "w0")
        self.told((("word", "abcdefghijklmno"),), (), "abcdefghijklmno")


class Refused(Case):
    def test_a_choice_is_wanted_and_none_is_left(self):
        for piece in (group(), group(A), either((), ()), either((A,), (A,))):
            self.refused((piece,), ())
            self.refused((A, piece, A), ())
            self.refused((piece, piece), (0,))
            self.refused((hang(1, piece),), ())
            self.refused((group(piece),), (1,))
        self.refused((group(either((), ())),), (0,))

    def test_a_choice_that_is_too_great(self):
        for number in (2, 3, 4, 10, GREAT):
            self.refused((group(A),), (number,))
            self.refused((group(group(A)),), (1, number))
            self.refused((either((), ()),), (number,))
            self.refused((group(either((), ())),), (0, number))
        for number in (3, 4, GREAT):
            self.refused((either((), (), ()),), (number,))
        for number in (4, 5, GREAT):
            self.refused((either((), (), (), ()),), (number,))

    def test_a_choice_below_nought(self):
        for number in (-1, -2, -3, -4, -5, -GREAT):
            self.refused((group(A),), (number,))
            self.refused((either((), ()),), (number,))
            self.refused((either((), (), (), ()),), (number,))
            self.refused((group(either((), ())),), (0, number))

    def test_choices_that_are_left(self):
        for more in ((0,), (1,), (-1,), (GREAT,), (-GREAT,), (0, 0), (5, 6, 7)):
            self.refused((), more)
            self.refused((A, GAP, END, stop(0)), more)
            self.refused((group(A),), (0,) + more)
            self.refused((group(A),), (1,) + more)
            self.refused((group(group(A)),), (0,) + more)
            self.refused((either((), ()),), (1,) + more)
            self.refused((hang(1, A),), more)

    def test_an_end_on_one_line(self):
        for row in ((END,), (A, END), (group(END),), (hang(1, END),), (A, group(hang(0, group(END))))):
            self.refused((group(*row),), (0,))
        self.told((group(A), END), (0,), "a\n")

    def test_a_passed_stop_on_one_line(self):
        for row in ((A, stop(0)), (group(BC, stop(1)),), (hang(3, BC, stop(1)),), (A, GAP, stop(1))):
            self.refused((group(*row),), (0,))
        self.told((A, group(stop(1), A)), (0,), "aa")
        self.refused((BC, group(stop(1), A)), (0,))
        self.told((BC, END, group(stop(1), A)), (0,), "bc\n a")


class Bounds(Case):
    def test_a_depth_of_twelve(self):
        row = (A, GAP, A)
        for level in range(12):
            row = (group(*row),)
        self.told(row, (0,), "a a")
        self.told(row, (1,) * 12, "a\na")
        self.told(row, (1,) * 11 + (0,), "a a")
        self.refused(row, (1,) * 11)
        self.refused(row, (1,) * 13)

    def test_twelve_hangs(self):
        row = (A,)
        for level in range(12):
            row = (hang(12, GAP, *row),)
        self.told(row, (), "".join("\n" + " " * (12 * level) for level in range(1, 13)) + "a")

    def test_twelve_eithers(self):
        row = (A,)
        for level in range(12):
            row = (either((BC,), row),)
        self.told(row, (1,) * 12, "a")
        self.told(row, (1,) * 7 + (0,), "bc")
        self.refused(row, (1,) * 7)

    def test_two_hundred_tokens(self):
        self.told((A,) * 200, (), "a" * 200)
        self.told((GAP,) * 200, (), "\n" * 200)
        self.told((group(GAP, A),) * 50, (0, 1) * 25, " a\na" * 25)
        self.told((either((A,), (BC,)),) * 40, (1, 0) * 20, "bca" * 20)
        self.told((group(*((A, GAP) * 99)),), (0,), "a " * 99)
        self.told((hang(2, *((A, END) * 99)),), (), "a\n  " * 99)
        self.told((either((), ()),) * 66 + (A, A), (0, 1) * 33, "aa")
        self.refused((group(),) * 100, (0,) * 99)
        self.refused((group(),) * 100, (0,) * 101)


class AllSmallRows(Case):
    def test_all_choices_of_all_small_rows(self):
        # Each tuple of small numbers is asked for, so that just the right ones are taken.
        some = [choices for count in range(4) for choices in itertools.product(range(-1, 3), repeat=count)]
        for size in range(5):
            for row in rows_of_size(size, LEAVES):
                for choices in some:
                    self.check(row, choices)

    def test_larger_rows(self):
        for row in rows_by_chance(seed=3, count=400, size=30):
            for choices in choices_by_shape(row)[:200]:
                self.check(row, choices)
                self.check(row, choices + (0,))
                self.check(row, choices[:-1])

    def check(self, row, choices):
        expected = set_token_by_token(row, choices)
        try:
            text = set_by(row, choices)
        except NoChoice:
            text = None
        if text != expected:
            self.fail((row, choices, text, expected))


class WordsThatAreSet(Case):
    def taken_words(self, row, choices):
        # The words of the rows that are taken, and the choices left behind them; broken is told by the choices alone.
        def walk(row, left, broken):
            words = ""
            for piece in row:
                inner = None
                if piece[0] == "word":
                    words += piece[1]
                elif piece[0] == "group":
                    inner = (piece[1], left[1:] if broken else left, broken and left[0] == 1)
                elif piece[0] == "hang":
                    inner = (piece[2], left, broken)
                elif piece[0] == "either":
                    inner = (piece[1][left[0]], left[1:], broken)
                if inner is not None:
                    more, left = walk(*inner)
                    words += more
            return words, left
        words, left = walk(row, choices, True)
        self.assertEqual(left, ())
        return words

    def check(self, row):
        texts = texts_by_choices(row)
        for choices, text in texts.items():
            signs = text.replace(" ", "").replace("\n", "")
            self.assertEqual(signs, self.taken_words(row, choices), (row, choices))
        return len(texts)

    def test_the_signs_are_those_of_the_words_taken(self):
        row = (A, either((BC, GAP, group(("word", "de"))), (("word", "fg"),)), hang(2, END, ("word", "hi")), stop(0))
        self.assertEqual(set_by(row, (0, 0)), "abc\nde\n  hi\n")
        self.assertEqual(set_by(row, (1,)), "afg\n  hi\n")
        self.assertEqual(self.check(row), 3)

    def test_many_rows(self):
        count = sum(self.check(row) for row in rows_by_chance(seed=11, count=300, size=30))
        self.assertGreater(count, 1000)


class Order(unittest.TestCase):
    def ordered(self, one, other):
        for ahead, behind in ((one, other), (one + (7,), other), (one, other + (-7,)), (one + (9,), other + (0, 0))):
            self.assertIs(earlier(ahead, behind), True, (ahead, behind))
            self.assertIs(earlier(behind, ahead), False, (ahead, behind))

    def test_unlike_at_the_first_place(self):
        self.ordered((0,), (1,))
        self.ordered((1, 5, 5), (2, 0, 0))
        self.ordered((9,), (10,))

    def test_unlike_at_a_later_place(self):
        self.ordered((3, 0), (3, 1))
        self.ordered((0, 1, 0, 3, 9), (0, 1, 0, 4, 0))
        self.ordered((0,) * 99 + (1,), (0,) * 99 + (2,))

    def test_the_first_unlike_place_decides(self):
        self.ordered((0, 9, 9), (1, 0, 0))
        self.ordered((2, 0, 9), (2, 1, 0))

    def test_unlike_lengths(self):
        self.ordered((0, 3, 3, 3), (1,))
        self.ordered((0,), (1, 0, 0, 0))
        self.ordered((1, 0, 2), (1, 1))
        self.ordered((1, 0), (1, 1, 0))

    def test_numbers_below_nought(self):
        self.ordered((-1,), (0,))
        self.ordered((-2,), (-1,))
        self.ordered((0, -10), (0, -9))

    def test_numbers_of_thirty_figures(self):
        self.ordered((GREAT - 1,), (GREAT,))
        self.ordered((-GREAT,), (1 - GREAT,))
        self.ordered((-GREAT,), (GREAT,))
        self.ordered((1, -GREAT, 5), (1, 0))
        self.ordered((1, 0), (1, GREAT))

    def test_all_small_ones(self):
        some = list(itertools.product(range(-1, 3), repeat=3))
        for place, one in enumerate(some):
            for later, other in enumerate(some):
                if place != later:
                    self.assertIs(earlier(one, other), place < later)

    def test_of_unlike_choices_of_one_row_one_is_earlier(self):
        for row in rows_by_chance(seed=5, count=60, size=30):
            found = sorted(texts_by_choices(row))[:30]
            for one, other in itertools.combinations(found, 2):
                self.assertTrue(any(left != right for left, right in zip(one, other)), (row, one, other))
                self.assertIs(earlier(one, other), True)
                self.assertIs(earlier(other, one), False)


if __name__ == "__main__":
    unittest.main()
