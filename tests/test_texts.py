import itertools
import unittest

from linepress.texts import cheaper, fits, is_word, lines_of, price


def small_texts(longest):
    for length in range(longest + 1):
        for signs in itertools.product("a \n", repeat=length):
            yield "".join(signs)


def lines_by_hand(text):
    lines = [""]
    for sign in text:
        if sign == "\n":
            lines.append("")
        else:
            lines[-1] += sign
    return lines


class Words(unittest.TestCase):
    def test_words(self):
        for text in ("a", "!", "~", "'", "a'b", "|", "abcdefghijk", "abcdefghijkl", "!~!~!~!~!~!~"):
            self.assertIs(is_word(text), True, text)

    def test_every_sign_of_a_word(self):
        for code in range(256):
            if chr(code) != "%":
                self.assertIs(is_word(chr(code)), 33 <= code <= 126, code)
                self.assertIs(is_word("ab" + chr(code) + "cd"), 33 <= code <= 126, code)

    def test_lengths(self):
        for length in range(30):
            self.assertIs(is_word("x" * length), 1 <= length <= 12, length)

    def test_blanks_and_line_feeds(self):
        for text in ("", " ", "\n", "a b", " a", "a ", "a\nb", "\na", "a\n", "a\tb", "abcdefghijkl\n"):
            self.assertIs(is_word(text), False, text)

    def test_things_that_are_no_text(self):
        for thing in (True, False, None, 0, 1, 12, -3, 10 ** 59, [], ["a"], (), ("a",), ("word", "a"), [["a"]]):
            self.assertIs(is_word(thing), False, thing)


class Lines(unittest.TestCase):
    def test_lines(self):
        told = {
            "": [""],
            "a": ["a"],
            "\n": ["", ""],
            "\n\n": ["", "", ""],
            "a\n": ["a", ""],
            "\na": ["", "a"],
            "a\nb": ["a", "b"],
            "a\n\nb": ["a", "", "b"],
            " a \n  ": [" a ", "  "],
        }
        for text, lines in told.items():
            self.assertEqual(lines_of(text), lines)
            self.assertIs(type(lines_of(text)), list)

    def test_lines_of_all_small_texts(self):
        for text in small_texts(6):
            self.assertEqual(lines_of(text), lines_by_hand(text))

    def test_many_lines(self):
        self.assertEqual(lines_of("a\n" * 20000), ["a"] * 20000 + [""])

    def test_a_told_list_is_the_askers_own(self):
        for text in ("", "a\nb"):
            told = lines_of(text)
            expected = list(told)
            told[0] = "changed"
            told.append("more")
            self.assertEqual(lines_of(text), expected)


class Fits(unittest.TestCase):
    def test_just_the_width_and_one_longer(self):
        for width in range(1, 41):
            just = "x" * width
            self.assertIs(fits(just, width), True)
            self.assertIs(fits(just + "x", width), False)
            for place in range(3):
                lines = [just] * 3
                self.assertIs(fits("\n".join(lines), width), True)
                lines[place] = just + "x"
                self.assertIs(fits("\n".join(lines), width), False)

    def test_blanks_count(self):
        self.assertIs(fits("  a", 2), False)
        self.assertIs(fits("a  ", 2), False)
        self.assertIs(fits("   ", 2), False)
        self.assertIs(fits(" a ", 3), True)

    def test_line_feeds_do_not_count(self):
        self.assertIs(fits("", 1), True)
        self.assertIs(fits("\n\n\n", 1), True)
        self.assertIs(fits("a\na\n", 1), True)


class Prices(unittest.TestCase):
    def test_prices(self):
        told = [
            ("", 1, (1, 0)),
            ("", 40, (1, 0)),
            ("\n", 7, (2, 49)),
            ("a", 40, (1, 0)),
            ("a\n", 3, (2, 4)),
            ("\na", 3, (2, 9)),
            ("aaaa\na", 4, (2, 0)),
            ("a\naaaa", 4, (2, 9)),
            ("a\n\naa", 3, (3, 13)),
            ("a  \n b\nc", 3, (3, 1)),
        ]
        for text, width, expected in told:
            self.assertEqual(price(text, width), expected)
            self.assertIs(type(price(text, width)), tuple)

    def test_none_where_it_does_not_fit(self):
        self.assertIsNone(price("ab", 1))
        self.assertIsNone(price("a\nab", 1))
        self.assertIsNone(price("ab\na", 1))
        self.assertIsNone(price("a ", 1))
        self.assertIsNone(price("x" * 41, 40))

    def test_the_last_line_has_no_rag(self):
        for length in range(11):
            self.assertEqual(price("x" * length, 10), (1, 0))
            self.assertEqual(price("xxxx\n" + "x" * length, 10), (2, 36))
            self.assertEqual(price("x" * length + "\nxxxx", 10), (2, (10 - length) ** 2))

    def test_prices_of_all_small_texts(self):
        for text in small_texts(6):
            lines = lines_by_hand(text)
            for width in range(1, 5):
                expected = None
                if max(len(line) for line in lines) <= width:
                    expected = (len(lines), sum((width - len(line)) ** 2 for line in lines[:-1]))
                self.assertEqual(price(text, width), expected)
                self.assertIs(fits(text, width), expected is not None)


class Cheaper(unittest.TestCase):
    def ordered(self, one, other):
        self.assertIs(cheaper(one, other), True, (one, other))
        self.assertIs(cheaper(other, one), False, (one, other))

    def test_fewer_lines_come_first_whatever_the_rag(self):
        self.ordered((1, 0), (2, 0))
        self.ordered((1, 900), (2, 0))
        self.ordered((9, 5), (10, 5))

    def test_as_many_lines_and_less_rag(self):
        self.ordered((3, 0), (3, 1))
        self.ordered((3, 9), (3, 10))

    def test_like_prices(self):
        for one in ((1, 0), (2, 7), (10 ** 30, 10 ** 30)):
            self.assertIs(cheaper(one, (one[0], one[1])), False)

    def test_great_numbers(self):
        great = 10 ** 30
        self.ordered((great - 1, great), (great, 0))
        self.ordered((great, great - 1), (great, great))
        self.ordered((1, great), (2, great - 1))

    def test_all_small_pairs(self):
        prices = [(lines, rag) for lines in range(1, 4) for rag in range(3)]
        for place, one in enumerate(prices):
            for later, other in enumerate(prices):
                self.assertIs(cheaper(one, other), place < later)


if __name__ == "__main__":
    unittest.main()
