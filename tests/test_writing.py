"""[1.2], the writing half: maps written as texts."""

import itertools
import unittest

from mapweave.writing import written


class WrittenTest(unittest.TestCase):
    def assert_written(self, one, text):
        self.assertIs(type(written(one)), str)
        self.assertEqual(written(one), text)

    def test_ordinary(self):
        self.assert_written((3, (0, 2, 2)), "3: 0 2 2")
        self.assert_written((2, (1, 0)), "2: 1 0")
        self.assert_written((5, (4, 0, 3, 3, 1)), "5: 4 0 3 3 1")

    def test_one_thing(self):
        self.assert_written((1, (0,)), "1: 0")
        self.assert_written((9, (8,)), "9: 8")

    def test_no_things(self):
        self.assert_written((0, ()), "0:")
        self.assert_written((1, ()), "1:")
        self.assert_written((9, ()), "9:")

    def test_nine_things(self):
        self.assert_written((9, (0, 1, 2, 3, 4, 5, 6, 7, 8)), "9: 0 1 2 3 4 5 6 7 8")
        self.assert_written((9, (8, 7, 6, 5, 4, 3, 2, 1, 0)), "9: 8 7 6 5 4 3 2 1 0")
        self.assert_written((1, (0,) * 9), "1: 0 0 0 0 0 0 0 0 0")

    def test_the_order_of_the_row_is_kept_and_nothing_is_left_out(self):
        for many, to in itertools.product(range(4), range(1, 4)):
            for row in itertools.product(range(to), repeat=many):
                text = str(to) + ":"
                for number in row:
                    text += " " + str(number)
                self.assert_written((to, row), text)

    def test_asked_again(self):
        one = (3, (0, 2, 2))
        first = written(one)
        self.assertEqual(one, (3, (0, 2, 2)))
        self.assertEqual(written(one), first)


if __name__ == "__main__":
    unittest.main()
