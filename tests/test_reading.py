"""[1.2], the reading half: maps read from their texts."""

import itertools
import re
import unittest

from mapweave.errors import NoText
from mapweave.reading import read
from mapweave.writing import written
from samples import SamplesTestCase, every_map_up_to, some_maps

SIGNS = [chr(code) for code in range(ord(" "), ord("~") + 1)]


def map_of(text):
    """The map that the text is the writing of, or None: the document's words as a pattern."""
    if re.fullmatch("[0-9]:( [0-9]){0,9}", text) is None:
        return None
    to, *row = [int(number) for number in re.findall("[0-9]", text)]
    if any(part >= to for part in row):
        return None
    return (to, tuple(row))


def texts_one_sign_off(text):
    for place in range(len(text) + 1):
        yield text[:place] + text[place + 1:]
        for sign in SIGNS:
            yield text[:place] + sign + text[place:]
            yield text[:place] + sign + text[place + 1:]


class ReadingTestCase(SamplesTestCase):
    def assert_no_text(self, text):
        self.assert_refused(NoText, read, text)

    def assert_read_or_refused(self, text):
        expected = map_of(text)
        if expected is None:
            self.assert_no_text(text)
        else:
            self.assert_told(read(text), expected)
            self.assertEqual(written(read(text)), text)


class ReadTest(ReadingTestCase):
    def test_named_texts(self):
        self.assert_told(read("3: 0 2 2"), (3, (0, 2, 2)))
        self.assert_told(read("1: 0"), (1, (0,)))
        self.assert_told(read("9: 8"), (9, (8,)))
        self.assert_told(read("5: 4 0 3 3 1"), (5, (4, 0, 3, 3, 1)))

    def test_no_things(self):
        self.assert_told(read("0:"), (0, ()))
        self.assert_told(read("1:"), (1, ()))
        self.assert_told(read("9:"), (9, ()))

    def test_nine_things(self):
        self.assert_told(read("9: 0 1 2 3 4 5 6 7 8"), (9, tuple(range(9))))
        self.assert_told(read("9: 8 7 6 5 4 3 2 1 0"), (9, tuple(range(8, -1, -1))))
        self.assert_told(read("1: 0 0 0 0 0 0 0 0 0"), (1, (0,) * 9))

    def test_maps_of_every_size_are_read_as_they_are_written(self):
        for many, to in itertools.product(range(10), repeat=2):
            for one in some_maps(many, to):
                self.assert_told(read(written(one)), one)

    def test_every_small_map_is_read_as_it_is_written(self):
        for one in every_map_up_to(4, 4):
            self.assert_told(read(written(one)), one)

    def test_asked_again(self):
        text = "3: 0 2 2"
        first = read(text)
        self.assertEqual(text, "3: 0 2 2")
        self.assert_told(read(text), first)


class WrongTextTest(ReadingTestCase):
    def assert_none_is_text(self, *texts):
        for text in texts:
            self.assert_no_text(text)

    def test_nothing_and_blanks(self):
        self.assert_none_is_text("", " ", "  ", "         ")

    def test_no_colon_or_two(self):
        self.assert_none_is_text("0", "3", "3 0 2 2", "3; 0 2 2", "3. 0 2 2", "3  0 2 2")
        self.assert_none_is_text(":", "::", "0::", "3:: 0 2 2", "3: 0: 2 2", "3: 0 2 2:", ":3: 0 2 2", "3: :")

    def test_no_to(self):
        self.assert_none_is_text(":", ": 0", ": 0 2 2", " : 0", " 0 2 2", "a:", "a: 0")

    def test_a_blank_too_few(self):
        self.assert_none_is_text("3:0 2 2", "3: 02 2", "3: 0 22", "3:022", "1:0", "3: 0 2 2:")

    def test_a_blank_too_many(self):
        self.assert_none_is_text("3:  0 2 2", "3: 0  2 2", "3: 0 2  2", "3 : 0 2 2", "0 :", "1:  0")

    def test_a_blank_ahead_of_the_to(self):
        self.assert_none_is_text(" 3: 0 2 2", " 0:", " 9:", "  1: 0")

    def test_a_blank_behind_the_colon_with_nothing_behind_it(self):
        self.assert_none_is_text("0: ", "1: ", "9: ", "9:  ")

    def test_a_blank_at_the_end(self):
        self.assert_none_is_text("3: 0 2 2 ", "1: 0 ", "1: 0  ")

    def test_a_needless_0(self):
        self.assert_none_is_text("03: 0 2 2", "3: 00 2 2", "3: 0 02 2", "3: 0 2 02", "00:", "01: 0", "1: 00", "09:")

    def test_signs_underscores_and_points(self):
        for text in ("3: 0 2 2", "1: 0", "0:", "9: 8"):
            for place in range(len(text)):
                for sign in ("+", "-", "_", ".", ".0", ",", "_0", "0_", "e0"):
                    self.assert_no_text(text[:place] + sign + text[place:])
                    self.assert_no_text(text[:place + 1] + sign + text[place + 1:])

    def test_letters(self):
        self.assert_none_is_text("a", "x: 0", "3: a 2 2", "3: 0 2 b", "3: 0 2 2 c", "3: 0 2 2d", "O:")
        self.assert_none_is_text("None", "True: 0", "1: False", "three: 0 2 2")

    def test_a_number_of_to_or_greater(self):
        self.assert_none_is_text("0: 0", "0: 0 0", "3: 3", "3: 0 3 2", "3: 0 2 3", "3: 4 0 0", "9: 9", "1: 1", "9: 10")
        for to, part in itertools.product(range(10), repeat=2):
            self.assert_read_or_refused(f"{to}: {part}")
            self.assert_read_or_refused(f"{to}: 0 {part}")

    def test_a_to_above_9(self):
        self.assert_none_is_text("10:", "10: 0", "10: 9", "11: 10", "12: 0 1 2", "81:", "99: 9 8", "1000000: 0")

    def test_a_row_of_ten_numbers_or_more(self):
        for many in (10, 11, 20, 81):
            self.assert_no_text("9:" + " 0" * many)
            self.assert_no_text("1:" + " 0" * many)
        self.assert_no_text("9: 0 1 2 3 4 5 6 7 8 0")

    def test_things_shown_otherwise(self):
        self.assert_none_is_text("(3, (0, 2, 2))", "[3, [0, 2, 2]]", "3: (0, 2, 2)", "3: 0, 2, 2", "3: 0,2,2")


class EveryTextTest(ReadingTestCase):
    def test_every_short_text_of_some_signs(self):
        for many in range(5):
            for signs in itertools.product(" :0129+-_.a", repeat=many):
                self.assert_read_or_refused("".join(signs))

    def test_every_text_of_six_signs_that_stand_in_writings(self):
        for signs in itertools.product(" :012", repeat=6):
            self.assert_read_or_refused("".join(signs))

    def test_every_text_that_is_one_sign_off(self):
        for text in ("0:", "9:", "1: 0", "3: 0 2 2", "9: 0 1 2 3 4 5 6 7 8"):
            for other in texts_one_sign_off(text):
                self.assert_read_or_refused(other)


if __name__ == "__main__":
    unittest.main()
