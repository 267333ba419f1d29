"""Maps read from their texts."""

from mapweave.errors import NoText
from mapweave.maps import is_map
from mapweave.writing import written

DIGITS = "0123456789"


def read(text):
    # Each number of a map is a single digit, so a text's digits tell the one map that it can be the writing of.
    numbers = [int(sign) for sign in text if sign in DIGITS]
    if len(numbers) == 0:
        raise NoText("no number stands in the text")
    one = (numbers[0], tuple(numbers[1:]))
    if not is_map(one) or written(one) != text:
        raise NoText("the text is no map's writing")
    return one
