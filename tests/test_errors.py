"""The interface of errors.py, and that what is refused is refused with it."""

import unittest

from mapweave.dividing import before, behind
from mapweave.errors import MapError, NoFit, NoText, NoTurn
from mapweave.meeting import agreed, alike_made, joined, met, paired, stacked
from mapweave.reading import read
from mapweave.rings import beat, often, plain, renaming, ring, tail
from mapweave.weaving import then, turned

REFUSALS = (NoText, NoFit, NoTurn)

REFUSED_CALLS = (
    (NoText, read, ("",)),
    (NoText, read, ("3: 0 3 2",)),
    (NoFit, then, ((3, (0, 2, 2)), (3, (0, 2)))),
    (NoFit, before, ((3, (0, 2, 2)), (2, (0, 1)))),
    (NoFit, behind, ((3, (0, 2, 2)), (3, (0, 1)))),
    (NoFit, met, ((3, (0, 2, 2)), (2, (0, 1)))),
    (NoFit, agreed, ((3, (0, 2, 2)), (3, (0, 1)))),
    (NoFit, agreed, ((3, (0, 2, 2)), (4, (0, 2, 2)))),
    (NoFit, joined, ((3, (0, 2, 2)), (3, (0, 1)))),
    (NoFit, alike_made, ((3, (0, 2, 2)), (3, (0, 1)))),
    (NoFit, alike_made, ((3, (0, 2, 2)), (4, (0, 2, 2)))),
    (NoFit, paired, ((3, (0, 2, 2)), (3, (0, 1)))),
    (NoFit, stacked, ((3, (0, 2, 2)), (2, (0, 1)))),
    (NoFit, often, ((3, (0, 2)), 2)),
    (NoFit, ring, ((3, (0, 2)), 0)),
    (NoFit, tail, ((3, (0, 2)), 0)),
    (NoFit, beat, ((3, (0, 2)),)),
    (NoFit, plain, ((3, (0, 2)),)),
    (NoFit, renaming, ((3, (0, 2)), (3, (0, 2, 2)))),
    (NoFit, renaming, ((3, (0, 2, 2)), (3, (0, 2)))),
    (NoTurn, turned, ((3, (0, 2, 2)),)),
)


class ErrorsTest(unittest.TestCase):
    def test_map_error_stands_under_value_error(self):
        self.assertTrue(issubclass(MapError, ValueError))

    def test_each_refusal_stands_under_map_error(self):
        for refusal in REFUSALS:
            with self.subTest(refusal=refusal.__name__):
                self.assertTrue(issubclass(refusal, MapError))
                self.assertIsNot(refusal, MapError)

    def test_no_refusal_stands_under_another(self):
        for upper in REFUSALS:
            for lower in REFUSALS:
                with self.subTest(upper=upper.__name__, lower=lower.__name__):
                    self.assertEqual(issubclass(lower, upper), lower is upper)

    def test_names_are_those_of_the_interface(self):
        names = [one.__name__ for one in (MapError,) + REFUSALS]
        self.assertEqual(names, ["MapError", "NoText", "NoFit", "NoTurn"])

    def test_each_is_raised_and_taken_as_map_error(self):
        for refusal in (MapError,) + REFUSALS:
            with self.subTest(refusal=refusal.__name__):
                with self.assertRaises(MapError):
                    raise refusal("words are free")

    def test_each_refused_call_is_taken_by_its_own_refusal_and_those_above_it(self):
        for refusal, function, handed_in in REFUSED_CALLS:
            for taker in (ValueError, MapError, refusal):
                with self.subTest(function=function.__name__, taker=taker.__name__):
                    with self.assertRaises(taker):
                        function(*handed_in)

    def test_no_refused_call_is_taken_by_another_refusal(self):
        for refusal, function, handed_in in REFUSED_CALLS:
            with self.subTest(function=function.__name__, refusal=refusal.__name__):
                with self.assertRaises(MapError) as caught:
                    function(*handed_in)
                takers = [one for one in REFUSALS if isinstance(caught.exception, one)]
                self.assertEqual(takers, [refusal])


if __name__ == "__main__":
    unittest.main()
