"""What is promised over the whole program (points 2 and 3): its parts hold together."""

import copy
import random
import unittest

from helper import refusal, rows_by_chance, rows_of_size, texts_by_choices
from linepress.back import choices_of
from linepress.best import pressed
from linepress.errors import NoRoom
from linepress.notation import read, written
from linepress.pieces import depth, is_row, words_of
from linepress.press import Press
from linepress.roads import roads
from linepress.setting import earlier, set_by
from linepress.texts import cheaper, fits, lines_of, price
from linepress.tokens import row_of, tokens
from linepress.widths import narrowest, stairs


def many_rows(seed):
    return (rows_by_chance(seed, count=60, size=50) + rows_by_chance(seed + 1, count=20, size=120, deep=12)
            + rows_by_chance(seed + 2, count=40, size=40, longest=12, furthest=40))


def whole_numbers_in(told):
    # All that is neither a text nor a list nor a tuple.
    if isinstance(told, (list, tuple)):
        return [number for part in told for number in whole_numbers_in(part)]
    return [] if isinstance(told, str) else [told]


class ThePromise(unittest.TestCase):
    def test_what_is_told_is_set_and_fits_and_nothing_comes_before_it(self):
        for row in rows_by_chance(seed=111, count=120, size=34, longest=3, furthest=6):
            texts = texts_by_choices(row)
            for width in (1, 2, 3, 5, 8, 13, 21, 34, 40):
                fitting = {choices: text for choices, text in texts.items() if fits(text, width)}
                if not fitting:
                    self.assertEqual(refusal(pressed, row, width), (NoRoom, None))
                    continue
                text, told = pressed(row, width)
                self.assertEqual(fitting[told], text)
                own = price(text, width)
                for choices, other in fitting.items():
                    cost = price(other, width)
                    self.assertFalse(cheaper(cost, own), (row, width, choices))
                    self.assertFalse(cost == own and choices != told and earlier(choices, told), (row, width, choices))

    def test_a_wider_width_never_takes_more_lines(self):
        compared = 0
        for row in many_rows(112):
            narrow = None
            for width in range(1, 41):
                if refusal(pressed, row, width) is not None:
                    self.assertIs(narrow, None, (row, width))
                    continue
                text = pressed(row, width)[0]
                if narrow is not None:
                    # Of as many lines no more rag than the narrower one's text has within the wider one.
                    self.assertFalse(cheaper(price(narrow, width), price(text, width)), (row, width))
                    self.assertLessEqual(len(lines_of(text)), len(lines_of(narrow)), (row, width))
                    compared += text != narrow
                narrow = text
        self.assertGreater(compared, 60)

    def test_a_pressed_text_is_read_back(self):
        unlike = 0
        for row in many_rows(115):
            for width in (4, 7, 11, 18, 29, 40):
                if refusal(pressed, row, width) is None:
                    text, told = pressed(row, width)
                    choices = choices_of(row, text)
                    self.assertEqual(set_by(row, choices), text, (row, width))
                    self.assertTrue(choices == told or earlier(choices, told), (row, width))
                    unlike += choices != told
        # Choices that set one text have one price: so none come before the told ones.
        self.assertEqual(unlike, 0)

    def test_all_that_is_set_is_read_back(self):
        for row in rows_by_chance(seed=118, count=80, size=34, longest=3, furthest=6):
            for choices, text in texts_by_choices(row).items():
                found = choices_of(row, text)
                self.assertEqual(set_by(row, found), text)
                self.assertTrue(found == choices or earlier(found, choices))

    def test_what_is_written_is_read(self):
        for row in many_rows(119):
            self.assertTrue(is_row(row))
            self.assertEqual(read(written(row)), row)
            self.assertEqual(row_of(tokens(row)), row)

    def test_what_a_press_has_told_stands_however_the_notation_goes_on(self):
        ends = rows_by_chance(seed=120, count=12, size=30)
        compared = 0
        for row in rows_by_chance(seed=121, count=60, size=50):
            for width in (6, 12, 24):
                press = Press(width)
                if refusal(Press(width).take, written(row) + " ") is not None:
                    continue
                told = press.take(written(row) + " ")
                for end in ends:
                    if refusal(pressed, row + end, width) is None:
                        self.assertTrue(pressed(row + end, width)[0].startswith(told), (row, end, width))
                        compared += told != ""
        self.assertGreater(compared, 200)

    def test_a_press_tells_beginnings_of_the_text_part_by_part(self):
        source = random.Random(122)
        lines = 0
        for row in many_rows(123):
            for width in (6, 12, 24, 40):
                if refusal(pressed, row, width) is not None:
                    continue
                text = pressed(row, width)[0]
                press = Press(width)
                told = ""
                left = written(row)
                while left:
                    count = source.randint(0, 9)
                    told += press.take(left[:count])
                    left = left[count:]
                    self.assertTrue(text.startswith(told))
                    self.assertTrue(told == "" or told.endswith("\n"))
                self.assertEqual(told + press.rest(), text)
                lines += told.count("\n")
        self.assertGreater(lines, 500)

    def test_roads_pressed_and_widths_tell_of_the_same(self):
        for row in many_rows(126):
            for width in (5, 17, 40):
                found = roads(row, width)
                if found:
                    text, told = pressed(row, width)
                    lines, rag, choices = min(road[1:] for road in found)
                    self.assertEqual((lines, rag), price(text, width))
                    self.assertEqual(choices, told)
                    self.assertLessEqual(narrowest(row), width)
                    self.assertEqual(lines, min(stair[1] for stair in stairs(row) if stair[0] <= width))

    def test_all_small_rows(self):
        leaves = (("word", "ab"), ("gap", " "), ("end",))
        for size in range(5):
            for row in rows_of_size(size, leaves):
                width = narrowest(row)
                text, told = pressed(row, width)
                self.assertEqual(choices_of(row, text), told)
                press = Press(width)
                self.assertEqual(press.take(written(row)) + press.rest(), text)


class NothingIsChanged(unittest.TestCase):
    def asked(self, row, width):
        # All that can be asked of a row, refusals too.
        told = [tokens(row), words_of(row), depth(row), written(row), roads(row, width)]
        for ask in (pressed, lambda row, width: narrowest(row), lambda row, width: stairs(row)):
            told.append(None if refusal(ask, row, width) is not None else ask(row, width))
        press = Press(width)
        told.append(refusal(Press(width).take, written(row) + " "))
        if told[5] is not None:
            told.append(choices_of(row, told[5][0]))
            told.append(lines_of(told[5][0]))
            told.append(press.take(written(row)))
            told.append(press.rest())
        return told

    def test_asked_again_the_same_is_told(self):
        for row in many_rows(131)[::3]:
            before = copy.deepcopy(row)
            one = self.asked(row, 12)
            self.asked(row, 5)
            self.asked(read("[ 'a _ 'b ] { 'c | / }"), 12)
            self.assertEqual(self.asked(row, 12), one)
            self.assertEqual(row, before)

    def test_told_lists_are_the_askers_own(self):
        for row in many_rows(134)[::3]:
            before = copy.deepcopy(self.asked(row, 20))
            told = self.asked(row, 20)
            for part in told:
                if isinstance(part, list):
                    part.append("more")
                    part.reverse()
                    part.clear()
            self.assertEqual(self.asked(row, 20), before)

    def test_whole_numbers_are_no_truths(self):
        for row in many_rows(137)[::3]:
            told = [roads(row, 20)]
            if refusal(pressed, row, 20) is None:
                told += [pressed(row, 20), choices_of(row, pressed(row, 20)[0]), narrowest(row), stairs(row)]
                told.append(price(pressed(row, 20)[0], 20))
            for number in whole_numbers_in(told):
                self.assertIs(type(number), int)


if __name__ == "__main__":
    unittest.main()
