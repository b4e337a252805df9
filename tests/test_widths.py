import unittest

from helper import deep_row, refusal, repeated, rows_by_chance, rows_of_size, soon
from linepress.best import pressed
from linepress.errors import LineError, NoChoice, NoPiece, NoRoom
from linepress.notation import read
from linepress.pieces import depth, is_row
from linepress.texts import lines_of
from linepress.tokens import tokens
from linepress.widths import narrowest, stairs


def lines_by_width(row):
    # How many lines the pressed text has within each width within which it is not refused.
    return {width: len(lines_of(pressed(row, width)[0])) for width in range(1, 41)
            if refusal(pressed, row, width) is None}


class Case(unittest.TestCase):
    def told(self, notation, least, expected):
        row = read(notation)
        self.assertEqual(narrowest(row), least, notation)
        self.assertEqual(stairs(row), expected, notation)
        self.check(row)

    def refused(self, row):
        self.assertEqual(refusal(narrowest, row), (NoRoom, None), row)
        self.assertEqual(refusal(stairs, row), (NoRoom, None), row)

    def check(self, row):
        # Held against what is pressed within each width.
        lines = lines_by_width(row)
        if not lines:
            self.refused(row)
            return 0
        least = soon(self, narrowest, row)
        found = soon(self, stairs, row)
        self.assertEqual(least, min(lines), row)
        self.assertEqual(found, [(width, lines[width]) for width in sorted(lines)
                                 if width - 1 not in lines or lines[width] < lines[width - 1]], row)
        self.hold(least, found)
        return len(found)

    def hold(self, least, found):
        self.assertIs(type(least), int)
        self.assertIs(type(found), list)
        self.assertEqual(found[0][0], least)
        for stair in found:
            self.assertIs(type(stair), tuple)
            self.assertEqual([type(number) for number in stair], [int, int])
            self.assertIn(stair[0], range(1, 41))
        for one, other in zip(found, found[1:]):
            self.assertLess(one[0], other[0])
            self.assertGreater(one[1], other[1])


class SmallRows(Case):
    def test_the_row_of_no_pieces(self):
        self.told("", 1, [(1, 1)])

    def test_rows_that_no_width_makes_shorter(self):
        self.told("'abc", 3, [(3, 1)])
        self.told("'abc _ 'de", 3, [(3, 2)])
        self.told("/ / /", 1, [(1, 4)])
        self.told("[ ]", 1, [(1, 1)])
        self.told("@7", 7, [(7, 1)])
        self.told(">5 / <", 5, [(5, 2)])
        self.told("@0", 1, [(1, 1)])

    def test_stairs(self):
        self.told("[ 'a _ 'bc ]", 2, [(2, 2), (4, 1)])
        self.told("'a [ _ 'bc ] [ _ 'd ]", 2, [(2, 3), (4, 2), (6, 1)])
        self.told("'ab [ _ 'cd ] [ _ 'ef ] [ _ 'gh ]", 2, [(2, 4), (5, 2), (11, 1)])
        self.told("{ 'a / / / 'b | 'abc / | 'abcd }", 1, [(1, 4), (3, 2), (4, 1)])
        self.told("{ 'abcd | 'a }", 1, [(1, 1)])
        self.told("[ >9 'a _ 'b < ]", 3, [(3, 1)])

    def test_several_lines_fewer_at_one_width(self):
        self.told("[ 'a _ 'b _ 'c _ 'd ]", 1, [(1, 4), (7, 1)])

    def test_the_widest_one(self):
        word = "abcdefghijkl"
        row = f"'{word} '{word} '{word} 'abcd"
        self.told(row, 40, [(40, 1)])
        self.told("@40", 40, [(40, 1)])
        self.told(f"[ '{word} '{word} '{word} _ 'abc ]", 36, [(36, 2), (40, 1)])
        # One sign more, and the last stair lies beyond the widest width.
        self.told(f"[ '{word} '{word} '{word} _ 'abcd ]", 36, [(36, 2)])

    def test_the_narrowest_one_need_not_be_the_first_choice(self):
        self.told("{ 'abcdef | 'abc | 'abcd }", 3, [(3, 1)])


class Refusals(Case):
    def test_rows_that_are_refused_within_forty(self):
        word = "abcdefghijkl"
        for notation in (f"'{word} '{word} '{word} 'abcde", "@40 'a", ">12 >12 >12 >12 / < < < <",
                         "{ @40 'a | @40 'b }", f"[ '{word} ] '{word} '{word} '{word}",
                         f"'a / '{word} '{word} '{word} '{word} / 'b"):
            self.refused(read(notation))

    def test_rows_that_wider_widths_would_hold(self):
        for row in ((("stop", 41),), (("hang", 41, (("end",),)),), (("word", "a" * 41),)):
            self.refused(row)

    def test_the_refusal_stands_under_line_error_and_is_no_other(self):
        for ask in (narrowest, stairs):
            with self.assertRaises(NoRoom) as told:
                ask(read("@40 'a"))
            self.assertIsInstance(told.exception, LineError)
            self.assertIsInstance(told.exception, ValueError)
            self.assertNotIsInstance(told.exception, (NoChoice, NoPiece))


class HeldAgainstPressed(Case):
    def test_all_small_rows(self):
        leaves = (("word", "a"), ("word", "bcd"), ("gap", " "), ("stop", 2))
        for size in range(4):
            for row in rows_of_size(size, leaves):
                self.check(row)

    def test_rows_by_chance(self):
        count = 0
        for row in rows_by_chance(seed=101, count=120, size=40):
            count += self.check(row)
        self.assertGreater(count, 150)

    def test_wide_rows(self):
        refused = 0
        for row in rows_by_chance(seed=102, count=60, size=30, longest=12, furthest=40):
            refused += self.check(row) == 0
        self.assertIn(refused, range(1, 60))

    def test_large_rows(self):
        for notation in ("[ _ 'a ]", "[ 'abc _ 'de ]", "{ 'a / | 'bb _ | }", "[ _ ]", "'a [ _ ]", "{ . | _ 'a }",
                         "[ ]"):
            row = repeated(notation)
            self.assertTrue(is_row(row))
            self.assertGreater(self.check(row), 0)
        for row in rows_by_chance(seed=103, count=8, size=200, deep=12):
            self.check(row)

    def test_a_row_of_great_depth(self):
        row = deep_row()
        self.assertEqual((depth(row), len(tokens(row))), (12, 198))
        self.check(row)
        row = read("[ 'a _ " * 12 + "'b" + " ]" * 12)
        self.assertGreater(self.check(row), 5)


class Told(Case):
    def test_a_told_list_is_the_askers_own(self):
        for notation in ("", "'a", "[ 'a _ 'b ]", "'a [ _ 'bc ] [ _ 'd ]"):
            row = read(notation)
            before = list(stairs(row))
            told = stairs(row)
            told.append((41, 0))
            told[0] = (7, 7)
            self.assertEqual(stairs(row), before)
            told.clear()
            self.assertEqual(stairs(row), before)
            self.assertEqual(narrowest(row), before[0][0])

    def test_nothing_asked_later_changes_it(self):
        row = read("'a [ _ 'bc ] [ _ 'd ]")
        told = stairs(row)
        before = list(told)
        stairs(read("[ 'a _ 'b ]"))
        narrowest(row)
        refusal(stairs, read("@40 'a"))
        self.assertEqual(told, before)


if __name__ == "__main__":
    unittest.main()
