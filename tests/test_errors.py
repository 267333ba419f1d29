"""The interface of errors.py."""

import unittest

from mapweave.errors import MapError, NoFit, NoText, NoTurn

REFUSALS = (NoText, NoFit, NoTurn)


class ErrorsTest(unittest.TestCase):
    def test_map_error_stands_under_value_error(self):
        self.assertTrue(issubclass(MapError, ValueError))

    def test_each_refusal_stands_under_map_error(self):
        for refusal in REFUSALS:
            with self.subTest(refusal=refusal.__name__):
                self.assertTrue(issubclass(refusal, MapError))
                self.assertIsNot(refusal, MapError)

    def test_no_refusal_stands_under_another(self):
        for upper in REFUSALS:
            for lower in REFUSALS:
                with self.subTest(upper=upper.__name__, lower=lower.__name__):
                    self.assertEqual(issubclass(lower, upper), lower is upper)

    def test_names_are_those_of_the_interface(self):
        names = [one.__name__ for one in (MapError,) + REFUSALS]
        self.assertEqual(names, ["MapError", "NoText", "NoFit", "NoTurn"])

    def test_each_is_raised_and_taken_as_map_error(self):
        for refusal in (MapError,) + REFUSALS:
            with self.subTest(refusal=refusal.__name__):
                with self.assertRaises(MapError):
                    raise refusal("words are free")


if __name__ == "__main__":
    unittest.main()
