import itertools
import unittest

from helper import rows_of_size
from linepress.errors import LineError, NoChoice, NoPiece, NoRoom
from linepress.pieces import depth, is_row, words_of
from linepress.tokens import row_of, tokens

WORD = ("word", "a")
GAP = ("gap", " ")
END = ("end",)
STOP = ("stop", 7)
OPEN = ("open",)
CLOSE = ("close",)
HANG = ("hang", 2)
BACK = ("back",)
EITHER = ("either",)
OR = ("or",)
DONE = ("done",)

LEAVES = (WORD, END)

MIXED = (
    WORD,
    ("group", (GAP, ("hang", 2, (STOP, ("either", ((END,), (), (("group", (WORD,)), WORD))), GAP)), WORD)),
    ("either", ((), ())),
    ("hang", 0, ()),
    ("group", ()),
)

MIXED_TOKENS = [
    WORD,
    OPEN, GAP, HANG, STOP, EITHER, END, OR, OR, OPEN, WORD, CLOSE, WORD, DONE, GAP, BACK, WORD, CLOSE,
    EITHER, OR, DONE,
    ("hang", 0), BACK,
    OPEN, CLOSE,
]


def rows_with(count):
    return rows_of_size(count, LEAVES)


def all_tuples(thing):
    if isinstance(thing, tuple):
        return all(all_tuples(part) for part in thing)
    return isinstance(thing, (str, int))


class TokensOfRows(unittest.TestCase):
    def test_the_row_of_no_pieces(self):
        self.assertEqual(tokens(()), [])

    def test_pieces_that_are_tokens(self):
        for piece in (WORD, GAP, ("gap", ""), END, STOP, ("stop", 0), ("stop", 40)):
            self.assertEqual(tokens((piece,)), [piece])
        self.assertEqual(tokens((STOP, WORD, GAP, WORD, END)), [STOP, WORD, GAP, WORD, END])

    def test_groups(self):
        self.assertEqual(tokens((("group", ()),)), [OPEN, CLOSE])
        self.assertEqual(tokens((("group", (WORD, GAP)), END)), [OPEN, WORD, GAP, CLOSE, END])

    def test_hangs(self):
        self.assertEqual(tokens((("hang", 12, ()),)), [("hang", 12), BACK])
        self.assertEqual(tokens((("hang", 0, (WORD, GAP)), END)), [("hang", 0), WORD, GAP, BACK, END])

    def test_eithers(self):
        self.assertEqual(tokens((("either", ((), ())),)), [EITHER, OR, DONE])
        self.assertEqual(tokens((("either", ((), (), (), ())),)), [EITHER, OR, OR, OR, DONE])
        row = (("either", ((WORD, GAP), (), (END,))), STOP)
        self.assertEqual(tokens(row), [EITHER, WORD, GAP, OR, OR, END, DONE, STOP])

    def test_all_kinds_within_one_another(self):
        self.assertEqual(tokens(MIXED), MIXED_TOKENS)

    def test_a_list_of_tuples(self):
        told = tokens(MIXED)
        self.assertIs(type(told), list)
        self.assertTrue(all(type(token) is tuple for token in told))

    def test_a_told_list_is_the_askers_own(self):
        for row in ((), (WORD,), (("group", (WORD, GAP)),), (("either", ((), ())),), MIXED):
            told = tokens(row)
            expected = list(told)
            told.append(WORD)
            told[0] = END
            self.assertEqual(tokens(row), expected)

    def test_words_of_a_row_are_those_of_its_tokens(self):
        for count in range(6):
            for row in rows_with(count):
                self.assertEqual(words_of(row), [token[1] for token in tokens(row) if token[0] == "word"])


class RowsPutTogether(unittest.TestCase):
    def test_no_tokens(self):
        self.assertEqual(row_of([]), ())
        self.assertIs(type(row_of([])), tuple)

    def test_what_is_told_of_a_row_is_put_together_to_the_row(self):
        for row in ((WORD,), (GAP, END, STOP), MIXED, (("group", MIXED), WORD), (("either", (MIXED, (), MIXED)),)):
            made = row_of(tokens(row))
            self.assertEqual(made, row)
            self.assertTrue(all_tuples(made))

    def test_all_small_rows(self):
        for count in range(7):
            for row in rows_with(count):
                told = tokens(row)
                self.assertEqual(len(told), count)
                self.assertTrue(is_row(row))
                self.assertEqual(row_of(told), row)

    def test_bounds_that_are_kept(self):
        row = ()
        for level in range(12):
            row = (("hang", level, row),)
        self.assertEqual(row_of(tokens(row)), row)
        row = (("either", ((), (WORD,), (END,), ())), ) * 28 + (WORD,) * 4
        self.assertEqual(len(tokens(row)), 200)
        self.assertEqual(row_of(tokens(row)), row)

    def test_twelve_may_be_open_again_and_again(self):
        told = ([OPEN] * 12 + [CLOSE] * 12) * 3
        row = row_of(told)
        self.assertEqual(tokens(row), told)
        self.assertEqual(depth(row), 12)

    def test_numbers_beyond_their_bounds_are_not_refused(self):
        self.assertEqual(row_of([("stop", 41), ("hang", 13), BACK]), (("stop", 41), ("hang", 13, ())))
        self.assertEqual(row_of([("word", "abcdefghijklm")]), (("word", "abcdefghijklm"),))

    def test_the_list_that_is_handed_in_stays_as_it_is(self):
        for given in (list(MIXED_TOKENS), [WORD, OPEN, CLOSE], [], [EITHER, OR, OR, DONE]):
            before = list(given)
            row = row_of(given)
            self.assertEqual(given, before)
            given.append(WORD)
            self.assertEqual(row_of(before), row)

    def test_a_told_row_stays_when_the_list_is_changed(self):
        given = list(MIXED_TOKENS)
        row = row_of(given)
        given.clear()
        self.assertEqual(row, MIXED)


class Refused(unittest.TestCase):
    def refused(self, given, at):
        before = list(given)
        with self.assertRaises(NoPiece) as caught:
            row_of(given)
        error = caught.exception
        self.assertEqual(error.at, at, before)
        self.assertIs(type(error.at), int)
        self.assertEqual(given, before)
        self.assertIsInstance(error, LineError)
        self.assertIsInstance(error, ValueError)
        self.assertNotIsInstance(error, (NoChoice, NoRoom))

    def test_an_ending_token_and_nothing_is_open(self):
        for token in (CLOSE, BACK, OR, DONE):
            self.refused([token], 1)
            self.refused([WORD, GAP, token, WORD], 3)
            self.refused([OPEN, CLOSE, token], 3)
            self.refused([HANG, BACK, token], 3)
            self.refused([EITHER, OR, DONE, token], 4)

    def test_an_ending_token_that_does_not_match(self):
        for opener, wrong in ((OPEN, (BACK, OR, DONE)), (HANG, (CLOSE, OR, DONE)), (EITHER, (CLOSE, BACK))):
            for token in wrong:
                self.refused([opener, token], 2)
                self.refused([opener, WORD, token, WORD], 3)
        for token in (CLOSE, BACK):
            self.refused([EITHER, OR, token], 3)

    def test_what_was_opened_last_is_what_counts(self):
        self.refused([OPEN, HANG, CLOSE], 3)
        self.refused([HANG, OPEN, BACK], 3)
        self.refused([EITHER, OPEN, OR], 3)
        self.refused([EITHER, OR, HANG, DONE], 4)
        self.refused([OPEN, EITHER, CLOSE], 3)
        self.refused([OPEN, HANG, BACK, BACK], 4)
        self.refused([HANG, OPEN, CLOSE, CLOSE], 4)
        self.refused([OPEN, EITHER, OR, DONE, DONE], 5)

    def test_a_fifth_row(self):
        self.refused([EITHER, OR, OR, OR, OR], 5)
        self.refused([EITHER, WORD, OR, WORD, OR, WORD, OR, WORD, OR, WORD, DONE], 9)
        four_rows = [EITHER, OR, OR, OR, DONE]
        self.refused([EITHER] + four_rows + [OR, OR, OR] + four_rows + [OR], 15)
        self.assertEqual(row_of([EITHER] + four_rows + [OR, DONE]), (("either", (row_of(four_rows), ())),))

    def test_an_either_of_one_row(self):
        self.refused([EITHER, DONE], 2)
        self.refused([EITHER, WORD, DONE, WORD], 3)
        self.refused([EITHER, EITHER, OR, DONE, DONE], 5)
        self.refused([EITHER, OR, EITHER, DONE], 4)

    def test_a_thirteenth_that_is_open(self):
        for opener in (OPEN, HANG, EITHER):
            for last in (OPEN, HANG, EITHER):
                self.refused([opener] * 12 + [last], 13)
                self.refused([opener] * 12 + [WORD, last, WORD], 14)
        self.refused([OPEN] * 12 + [CLOSE] * 12 + [HANG] * 13 + [BACK] * 13, 37)
        self.refused([OPEN] * 12 + [CLOSE, OPEN, OPEN], 15)

    def test_two_hundred_tokens_ahead(self):
        for token in (WORD, GAP, END, STOP, OPEN, HANG, EITHER, CLOSE, BACK, OR, DONE):
            self.refused([WORD] * 200 + [token], 201)
            self.refused([WORD] * 200 + [token] * 30, 201)
        self.refused([OPEN] + [WORD] * 199 + [CLOSE], 201)
        self.refused([HANG] + [WORD] * 199 + [BACK], 201)
        self.refused([EITHER, OR] + [WORD] * 198 + [DONE], 201)
        self.refused([OPEN, CLOSE] * 100 + [WORD], 201)

    def test_something_is_open_at_the_end(self):
        self.refused([OPEN], 2)
        self.refused([HANG], 2)
        self.refused([EITHER], 2)
        self.refused([EITHER, OR], 3)
        self.refused([EITHER, WORD, OR, WORD, OR, WORD], 7)
        self.refused([OPEN, HANG, BACK], 4)
        self.refused([WORD, OPEN, CLOSE, OPEN, WORD], 6)
        self.refused([OPEN] * 12, 13)
        self.refused([WORD] * 199 + [OPEN], 201)

    def test_the_first_one_counts(self):
        self.refused([CLOSE, BACK, DONE], 1)
        self.refused([OPEN, BACK, EITHER, DONE], 2)
        self.refused([WORD, EITHER, DONE] + [WORD] * 300, 3)

    def test_a_refusal_leaves_nothing_behind(self):
        self.refused([OPEN, OPEN, BACK], 3)
        self.assertEqual(row_of([WORD]), (WORD,))
        self.refused([CLOSE], 1)

    def test_just_the_tokens_of_rows_are_put_together(self):
        # Of all short lists of tokens those alone are taken that some row has.
        kinds = LEAVES + (OPEN, CLOSE, HANG, BACK, EITHER, OR, DONE)
        for count in range(6):
            told = {tuple(tokens(row)) for row in rows_with(count)}
            for given in itertools.product(kinds, repeat=count):
                try:
                    row_of(list(given))
                    taken = True
                except NoPiece as error:
                    taken = False
                    self.check_number(list(given), error.at)
                self.assertEqual(taken, given in told, given)

    def check_number(self, given, at):
        # The tokens ahead of the number go on to a row in some way; with the one of the number they do not.
        self.assertTrue(1 <= at <= len(given) + 1)
        self.assertTrue(self.goes_on(given[:at - 1]), given)
        if at <= len(given):
            self.assertFalse(self.goes_on(given[:at]), given)

    def goes_on(self, given):
        endings = ([CLOSE], [BACK], [DONE], [OR, DONE])
        made = [given]
        while made:
            longer = []
            for some in made:
                try:
                    row_of(list(some))
                    return True
                except NoPiece as error:
                    if error.at == len(some) + 1:
                        longer.extend(some + ending for ending in endings)
            made = longer
        return False


if __name__ == "__main__":
    unittest.main()
