"""Maps to test with, the words of the document done plainly, and how answers are compared."""

import itertools
import unittest

from mapweave.errors import MapError


def rows_of_maps(many, to):
    """Some rows of so many things into to things, the least and the greatest among them."""
    if to == 0:
        return [()] if many == 0 else []
    rows = [(0,) * many, (to - 1,) * many]
    rows.append(tuple(k % to for k in range(many)))
    rows.append(tuple((to - 1 - k) % to for k in range(many)))
    rows.append(tuple((k * k + 1) % to for k in range(many)))
    rows.append(tuple((3 * k * k + 2 * k) // 2 % to for k in range(many)))
    return rows


def some_maps(many, to):
    return [(to, row) for row in rows_of_maps(many, to)]


def every_map(many, to):
    return [(to, row) for row in itertools.product(range(to), repeat=many)]


def every_map_up_to(many, to):
    return [
        one
        for size in itertools.product(range(many + 1), range(to + 1))
        for one in every_map(*size)
    ]


def put_together(one, other):
    """What then(one, other) is to be, of maps that fit."""
    row = []
    for k in range(len(one[1])):
        row.append(other[1][one[1][k]])
    return (other[0], tuple(row))


def itself(many):
    """What same(many) is to be."""
    return (many, tuple(k for k in range(many)))


def row_of_rings(lengths):
    """The row of a map that is rings of these lengths, one behind the other."""
    row = []
    for length in lengths:
        first = len(row)
        row.extend(first + (k + 1) % length for k in range(length))
    return tuple(row)


def some_into_themselves(many):
    """Some maps of so many things, at least 1, into themselves: rings, tails and both."""
    rows = rows_of_maps(many, many)
    rows.append((0,) + tuple(range(many - 1)))
    rows.append((many - 1,) + tuple(range(many - 1)))
    rows.append(tuple(min(k + 1, many - 1) for k in range(many)))
    rows.append(tuple(k // 2 for k in range(many)))
    rows.append(tuple(min(k + 2, many - 1) if k % 3 else 0 for k in range(many)))
    rows.append(row_of_rings([many - many // 2] + [many // 2] * (many > 1)))
    rows.append(row_of_rings([1, 2] * (many // 3) + [1] * (many % 3)))
    return [(many, row) for row in rows]


def every_into_itself(many):
    return every_map(many, many)


def with_names(one, names):
    """The map of things into themselves in which what was called k is called names[k]."""
    row = [None] * one[0]
    for k in range(one[0]):
        row[names[k]] = names[one[1][k]]
    return (one[0], tuple(row))


def some_names(many):
    """Some ways to call so many things otherwise, the same names among them."""
    names = [tuple(range(many)), tuple(reversed(range(many))), tuple((k + 1) % many for k in range(many))]
    names.append(tuple(range(0, many, 2)) + tuple(range(1, many, 2)))
    return names


class SamplesTestCase(unittest.TestCase):
    def assert_told(self, told, expected):
        # A truth is equal to a whole number, and shown otherwise.
        self.assertEqual(repr(told), repr(expected))

    def assert_map_of(self, thing, many, to):
        """That thing is a map of so many things with this to, however many they are."""
        self.assertIs(type(thing), tuple, repr(thing))
        self.assertEqual(len(thing), 2, repr(thing))
        self.assertIs(type(thing[0]), int, repr(thing))
        self.assertEqual(thing[0], to, repr(thing))
        self.assertIs(type(thing[1]), tuple, repr(thing))
        self.assertEqual(len(thing[1]), many, repr(thing))
        for part in thing[1]:
            self.assertIs(type(part), int, repr(thing))
            self.assertTrue(0 <= part < to, repr(thing))

    def assert_refused(self, refusal, function, *handed_in):
        with self.assertRaises(MapError, msg=repr(handed_in)) as caught:
            function(*handed_in)
        self.assertIs(type(caught.exception), refusal, repr(handed_in))
