import unittest

from helper import (FromBehind, choices_by_shape, deep_row, roads_one_by_one, rows_by_chance, rows_of_size, soon,
                    texts_by_choices)
from linepress.notation import read
from linepress.pieces import depth, is_row
from linepress.roads import roads
from linepress.setting import set_by
from linepress.texts import price
from linepress.tokens import tokens


class Case(unittest.TestCase):
    def told(self, notation, width, expected):
        row = read(notation)
        self.assertEqual(roads(row, width), expected, (notation, width))
        self.hold(row, width, expected)

    def hold(self, row, width, found):
        # What holds of all roads, whatever the row is.
        self.assertIs(type(found), list)
        lengths = [road[0] for road in found]
        self.assertEqual(lengths, sorted(set(lengths)))
        for road in found:
            self.assertIs(type(road), tuple)
            length, lines, rag, choices = road
            self.assertIs(type(choices), tuple)
            for number in (length, lines, rag) + choices:
                self.assertIs(type(number), int)
            text = set_by(row, choices)
            self.assertEqual(price(text, width), (lines, rag), (row, width, road))
            self.assertEqual(len(text.split("\n")[-1]), length, (row, width, road))

    def soon(self, row, width):
        found = soon(self, roads, row, width)
        self.hold(row, width, found)
        return found

    def as_from_behind(self, row, widths):
        self.assertTrue(is_row(row))
        for width in widths:
            found = self.soon(row, width)
            if found != FromBehind(row, width).roads():
                self.fail((row, width))


class SmallRows(Case):
    def test_the_row_of_no_pieces(self):
        for width in range(1, 41):
            self.told("", width, [(0, 1, 0, ())])

    def test_plain_pieces(self):
        self.told("'abc", 5, [(3, 1, 0, ())])
        self.told("'abc _ 'de", 5, [(2, 2, 4, ())])
        self.told("'abc .", 5, [(0, 2, 4, ())])
        self.told("'abc / / 'd", 5, [(1, 3, 29, ())])
        self.told("'abc @4", 5, [(4, 1, 0, ())])
        self.told("'abc @3", 5, [(3, 1, 0, ())])
        self.told("'abc @1", 5, [(1, 2, 4, ())])

    def test_a_group(self):
        self.told("[ 'a _ 'bc ]", 5, [(2, 2, 16, (1,)), (4, 1, 0, (0,))])
        self.told("[ 'a _ 'bc ]", 4, [(2, 2, 9, (1,)), (4, 1, 0, (0,))])
        self.told("[ 'a _ 'bc ]", 3, [(2, 2, 4, (1,))])
        self.told("[ 'a _ 'bc ]", 1, [])
        self.told("[ 'a / ]", 3, [(0, 2, 4, (1,))])
        self.told("'a [ @0 'b ]", 3, [(1, 2, 4, (1,))])

    def test_a_hang(self):
        self.told(">2 'a _ 'b <", 4, [(3, 2, 9, ())])
        self.told(">2 'a _ 'b _ < 'c", 4, [(3, 3, 10, ())])
        self.told(">2 'a >1 _ < _ <", 4, [(2, 3, 10, ())])

    def test_an_either(self):
        self.told("{ 'abc | 'a | 'ab }", 3, [(1, 1, 0, (1,)), (2, 1, 0, (2,)), (3, 1, 0, (0,))])
        self.told("{ 'abc | 'a | 'ab }", 2, [(1, 1, 0, (1,)), (2, 1, 0, (2,))])
        self.told("[ { 'a _ 'b | 'c / } ]", 9, [(0, 2, 64, (1, 1)), (1, 2, 64, (1, 0)), (3, 1, 0, (0, 0))])

    def test_blanks_at_the_begin_and_at_the_end_count(self):
        self.told("[ _ 'a _ ]", 3, [(0, 3, 13, (1,)), (3, 1, 0, (0,))])
        self.told("[ _ 'a _ ]", 2, [(0, 3, 5, (1,))])
        self.told("@3 / 'a", 3, [(1, 2, 0, ())])
        self.told("@3 / 'a", 2, [])

    def test_rows_that_have_no_roads(self):
        self.told("'abcdefghijkl", 11, [])
        self.told("'abcdefghijkl", 12, [(12, 1, 0, ())])
        self.told("'ab 'cd", 3, [])
        self.told("'abc _ 'a", 2, [])
        self.told("@40", 39, [])
        self.told("@40", 40, [(40, 1, 0, ())])
        self.told("'a @0 @3", 2, [])
        self.told(">3 / <", 2, [])
        self.told(">3 / < / 'a", 2, [])
        self.told(">12 >12 >12 >5 _ < < < <", 40, [])
        self.told(">12 >12 >12 >4 _ < < < <", 40, [(40, 2, 1600, ())])
        self.told("{ 'abc | 'abcd }", 2, [])

    def test_a_line_within_counts_as_the_last_one_does(self):
        self.told("{ 'abcd / | 'ab } 'c", 3, [(3, 1, 0, (1,))])
        self.told("{ 'abcd / | 'ab } / 'c", 3, [(1, 2, 1, (1,))])

    def test_somewhat_beyond_the_bounds(self):
        self.told("[ 'a _ 'b ]", 60, [(1, 2, 3481, (1,)), (3, 1, 0, (0,))])
        self.told("", 0, [(0, 1, 0, ())])
        self.told("'a", 0, [])
        self.told("", -1, [])
        self.assertEqual(roads((("stop", 44), ("word", "abcdefghijklmn")), 60), [(58, 1, 0, ())])
        self.assertEqual(roads((("either", ((), (), (), (), (("word", "a"),))),), 5), [(0, 1, 0, (0,)), (1, 1, 0, (4,))])
        self.assertEqual(roads((("either", ((("word", "a"),),)),), 5), [(1, 1, 0, (0,))])


class ThePriceDecides(Case):
    def test_fewer_lines_come_ahead_of_less_rag(self):
        self.told("{ 'abcd / 'abcd / 'a | / 'a }", 4, [(1, 2, 16, (1,))])
        self.told("{ / 'a | 'abcd / 'abcd / 'a }", 4, [(1, 2, 16, (0,))])

    def test_of_as_many_lines_less_rag(self):
        self.told("{ 'a / 'z | 'abc / 'z | 'ab / 'z }", 4, [(1, 2, 1, (1,))])
        self.told("[ 'a _ ] 'bcd [ _ 'ef ]", 6, [(2, 2, 1, (0, 1)), (6, 2, 25, (1, 0))])

    def test_the_rag_of_the_last_line_counts_nothing(self):
        self.told("{ 'a | 'abcd } { 'bcd | }", 4, [(1, 1, 0, (0, 1)), (4, 1, 0, (0, 0))])

    def test_squares_are_summed(self):
        # Twice two is less rag than once three and nothing.
        self.told("{ 'abc / 'abc / 'z | 'ab / 'abcde / 'z }", 5, [(1, 3, 8, (0,))])
        self.told("{ 'ab / 'abcde / 'z | 'abc / 'abc / 'z }", 5, [(1, 3, 8, (1,))])

    def test_what_is_dear_at_first_may_be_cheap_at_last(self):
        # The second group fits on one line only behind the first one broken.
        self.told("[ 'abc _ 'd ] [ _ 'ef _ 'g ]", 6,
                  [(1, 3, 17, (0, 1)), (6, 2, 9, (1, 0))])


class TheOrderDecides(Case):
    def test_rows_alike(self):
        self.told("{ | }", 3, [(0, 1, 0, (0,))])
        self.told("{ 'a | 'a | 'a | 'a }", 3, [(1, 1, 0, (0,))])
        self.told("{ 'bb | 'a | 'bb | 'a }", 3, [(1, 1, 0, (1,)), (2, 1, 0, (0,))])

    def test_a_group_without_gaps(self):
        self.told("[ ]", 3, [(0, 1, 0, (0,))])
        self.told("[ 'a [ 'b ] ]", 3, [(2, 1, 0, (0,))])
        self.told("[ 'a ] [ 'b ] [ 'c ]", 3, [(3, 1, 0, (0, 0, 0))])

    def test_lines_alike_in_another_order(self):
        self.told("{ 'aaa / 'bb | 'aa / 'bbb } /", 5, [(0, 3, 13, (0,))])
        self.told("{ 'aa / 'bbb | 'aaa / 'bb } /", 5, [(0, 3, 13, (0,))])

    def test_lengths_that_come_to_the_same(self):
        self.told("{ 'a | 'bb } { 'aa | 'b }", 9, [(2, 1, 0, (0, 1)), (3, 1, 0, (0, 0)), (4, 1, 0, (1, 0))])
        self.told("{ 'bb | 'a } { 'b | 'aa }", 9, [(2, 1, 0, (1, 0)), (3, 1, 0, (0, 0)), (4, 1, 0, (0, 1))])

    def test_choices_of_unlike_lengths(self):
        self.told("{ { 'b | 'b | 'b | 'a } | 'a }", 3, [(1, 1, 0, (0, 0))])
        self.told("{ { 'bb | 'bb | 'bb | 'a } | 'a }", 3, [(1, 1, 0, (0, 3)), (2, 1, 0, (0, 0))])
        self.told("{ 'a | { 'a | 'a } }", 3, [(1, 1, 0, (0,))])

    def test_an_earlier_place_decides_ahead_of_a_later_one(self):
        self.told("{ 'bb | 'a | 'bbb } { 'a | 'bbb | 'bb }", 4, [
            (2, 1, 0, (1, 0)), (3, 1, 0, (0, 0)), (4, 1, 0, (0, 2))])

    def test_the_price_comes_ahead_of_the_order(self):
        self.told("{ / 'a | 'a } { | }", 3, [(1, 1, 0, (1, 0))])
        self.told("[ 'a / ] { 'b / | 'bb / }", 3, [(0, 3, 5, (1, 1))])


class AllChoices(Case):
    def check(self, row, widths):
        texts = texts_by_choices(row)
        for width in widths:
            found = roads(row, width)
            expected = roads_one_by_one(texts, width)
            if found != expected:
                self.fail((row, width, found, expected))
        return len(texts)

    def test_all_small_rows(self):
        leaves = (("word", "a"), ("word", "bc"), ("gap", " "), ("end",), ("stop", 1))
        for size in range(5):
            for row in rows_of_size(size, leaves):
                self.check(row, (1, 2, 3, 5))

    def test_rows_at_all_widths(self):
        count = 0
        for row in rows_by_chance(seed=31, count=250, size=40):
            self.assertLess(len(choices_by_shape(row)), 3000)
            count += self.check(row, range(1, 41))
        self.assertGreater(count, 3000)

    def test_rows_of_short_words_where_many_cost_the_same(self):
        count = 0
        for row in rows_by_chance(seed=32, count=400, size=36, deep=3, longest=2, furthest=4):
            count += self.check(row, range(1, 14))
        self.assertGreater(count, 3000)

    def test_rows_of_great_depth(self):
        for row in rows_by_chance(seed=33, count=150, size=44, deep=12, longest=3, furthest=6):
            self.check(row, (1, 3, 5, 8, 11, 16, 25, 40))

    def test_all_wrapped_in_one_another(self):
        inner = read("'ab _ 'c { . 'd | 'e _ }")
        for first in ("group", "hang", "either"):
            for second in ("group", "hang", "either"):
                row = (("word", "x"),) + self.wrapped(first, self.wrapped(second, inner) + (("gap", " "),)) + inner
                self.check(row, range(1, 20))

    def wrapped(self, kind, row):
        if kind == "group":
            return (("group", row),)
        if kind == "hang":
            return (("hang", 2, row),)
        return (("either", (row, (("end",),) + row)),)


class LargeRows(Case):
    def test_many_groups_one_behind_the_other(self):
        for notation in ("[ _ 'a ]", "[ 'abc _ 'de ]", "[ 'a . ]", "[ ]", "[ 'a _ 'b / ]"):
            for times in (24, 33):
                self.as_from_behind(read(notation) * times, (1, 2, 7, 16, 40))

    def test_many_eithers_one_behind_the_other(self):
        for notation in ("{ 'a | 'bb }", "{ | }", "{ 'a / | 'bb _ | @3 | }", "{ . | _ 'a }", "{ 'ab | 'ab | / }"):
            times = 200 // len(tokens(read(notation)))
            self.as_from_behind(read(notation) * min(times, 24), (1, 2, 7, 16, 40))
            self.as_from_behind(read(notation) * times, (3, 23, 40))

    def test_groups_and_eithers_by_turns(self):
        row = read("[ 'ab _ ] { 'c | 'de _ | / }") * 16
        self.as_from_behind(row, range(1, 41, 3))

    def test_what_is_told_of_many_alike(self):
        self.assertEqual(self.soon(read("{ | | | }") * 40, 40), [(0, 1, 0, (0,) * 40)])
        self.assertEqual(self.soon(read("[ ]") * 100, 1), [(0, 1, 0, (0,) * 100)])
        self.assertEqual(self.soon(read("{ 'a | 'a }") * 40, 40), [(40, 1, 0, (0,) * 40)])
        self.assertEqual(self.soon(read("{ 'a | 'a }") * 40, 39), [])
        self.assertEqual(self.soon(read("{ 'a / | / }") * 33, 1), [(0, 34, 0, (0,) * 33)])
        self.assertEqual(self.soon(read("{ / | 'a / }") * 33, 1), [(0, 34, 0, (1,) * 33)])

    def test_many_within_one_another(self):
        for ahead, behind in (("[ 'a _", "_ 'b ]"), ("{ 'a _ | 'b", "_ 'c }"), ("[ >1 . 'a", "_ < 'b ]"),
                              ("[ { 'a | _ 'b", "} _ ]"), ("{ 'c . | [ _", "'a _ ] 'b | / }"), (">1 _ [ { | _", "'a } ] <")):
            levels = 12 // depth(read(f"{ahead} {behind}"))
            row = read(" ".join([ahead] * levels + [behind] * levels))
            self.assertEqual(depth(row), 12)
            self.as_from_behind(row, range(1, 41, 3))

    def test_groups_deep_within_one_another_with_as_many_tokens_as_there_may_be(self):
        row = deep_row()
        self.assertEqual((depth(row), len(tokens(row))), (12, 198))
        self.as_from_behind(row, (1, 2, 5, 11, 23, 40))

    def test_rows_of_two_hundred_tokens(self):
        self.assertEqual(self.soon((("word", "a"),) * 200, 40), [])
        self.assertEqual(self.soon((("gap", " "),) * 200, 40), [(0, 201, 320000, ())])
        self.assertEqual(self.soon((("group", (("gap", ""),) * 198),), 40), [(0, 1, 0, (0,))])
        self.assertEqual(self.soon((("group", (("gap", " "),) * 198),), 40), [(0, 199, 198 * 1600, (1,))])
        for row in rows_by_chance(seed=41, count=12, size=200, deep=12):
            self.as_from_behind(row, (2, 5, 9, 17, 28, 40))

    def test_large_rows_whose_last_line_has_many_lengths(self):
        count = 0
        for row in rows_by_chance(seed=42, count=20, size=130, deep=6, longest=4):
            loose = tuple(("group", (piece,)) if piece[0] == "gap" else piece
                          for piece in row if piece[0] not in ("end", "stop"))
            self.as_from_behind(loose, (6, 13, 27, 40))
            count += len(roads(loose, 40))
        self.assertGreater(count, 60)
        row = read("{ | 'a | 'bb | 'ccc }") * 7
        for level in range(10):
            row = (("group", row + read("{ | 'a } [ _ 'b ] .")),)
        row = row + read("{ | 'a | _ }") * 2
        self.as_from_behind(row, (1, 4, 10, 25, 40))
        self.assertGreater(len(roads(row, 40)), 10)

    def test_an_either_of_many_ends(self):
        many = (("end",),) * 60
        self.assertEqual(self.soon((("either", (many, many, many)),), 40), [(0, 61, 60 * 1600, (0,))])
        self.assertEqual(self.soon((("either", (many, many[1:], many)),), 40), [(0, 60, 59 * 1600, (1,))])
        self.as_from_behind((("either", (many, (("word", "a"),) + many, (("hang", 2, many[:50]),))),), (1, 2, 3, 40))
        row = read("{ / | / / | / / / | / / / / }")
        self.assertEqual(self.soon(row * 13, 7), [(0, 14, 13 * 49, (0,) * 13)])
        self.as_from_behind(read("{ 'a / 'b / | / | 'abc / / }") * 15, (3, 4, 40))

    def test_lines_of_blanks_alone(self):
        self.assertEqual(self.soon(read(">3 / / / <"), 5), [(3, 4, 33, ())])
        self.assertEqual(self.soon(read("@5 / @2 @1 @0"), 5), [(0, 4, 25, ())])
        self.assertEqual(self.soon(read("@5 @4") * 50, 5), [(4, 51, 0, ())])
        self.as_from_behind(read("[ _ _ _ ] >2 [ / ] <") * 20, (1, 2, 3, 4, 17, 40))
        self.as_from_behind(read("{ @7 | _ | >1 . < }") * 22, (1, 7, 8, 40))


class Told(Case):
    def test_a_told_list_is_the_askers_own(self):
        for notation in ("", "'a", "[ 'a _ 'b ]", "{ 'a | 'bb | / }", "'abcdefgh"):
            row = read(notation)
            expected = list(roads(row, 4))
            told = roads(row, 4)
            told.append((9, 9, 9, (9,)))
            told[0] = (7, 7, 7, (7,))
            self.assertEqual(roads(row, 4), expected)
            told.clear()
            self.assertEqual(roads(row, 4), expected)

    def test_nothing_asked_later_changes_it(self):
        row = read("[ 'a _ 'b ] { 'c | 'dd }")
        told = roads(row, 5)
        before = list(told)
        roads(row, 6)
        roads(read("{ 'c | 'dd }"), 5)
        self.assertEqual(told, before)
        self.assertEqual(roads(row, 5), before)

    def test_the_row_stays_as_it_is(self):
        for row in rows_by_chance(seed=51, count=30, size=40):
            before = tokens(row)
            roads(row, 12)
            self.assertEqual(tokens(row), before)

    def test_a_wider_width_never_takes_more_lines(self):
        for row in rows_by_chance(seed=52, count=60, size=50):
            least = None
            for width in range(1, 41):
                found = roads(row, width)
                if least is not None:
                    self.assertTrue(found)
                    self.assertLessEqual(min(road[1] for road in found), least, (row, width))
                if found:
                    least = min(road[1] for road in found)


if __name__ == "__main__":
    unittest.main()
