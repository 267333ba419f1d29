"""[0.3], [0.4] and [1.1]: which things are maps."""

import copy
import itertools
import unittest

from mapweave.maps import is_map
from samples import rows_of_maps

NO_WHOLE_NUMBERS = (
    None, True, False, "", "0", "1", "a", [], [0], [1], (), (0,), (1,), (1, (0,)),
)


def with_part(row, place, part):
    return row[:place] + (part,) + row[place + 1:]


def deep(thing, wrap, depth):
    for _ in range(depth):
        thing = wrap(thing)
    return thing


def in_list(thing):
    return [thing]


def in_tuple(thing):
    return (thing,)


def in_pair(thing):
    return (1, thing)


class MapsTestCase(unittest.TestCase):
    def assert_map(self, thing):
        self.assertIs(is_map(thing), True, repr(thing))

    def assert_no_map(self, thing):
        self.assertIs(is_map(thing), False, repr(thing))


class MapsTest(MapsTestCase):
    def test_named_maps(self):
        nine = tuple(range(9))
        for one in (
            (0, ()), (9, ()), (3, (0, 2, 2)), (1, (0,)), (9, nine),
            (9, nine[::-1]), (9, (8,) * 9), (9, (0,) * 9), (1, (0,) * 9), (9, (8,)),
        ):
            self.assert_map(one)

    def test_maps_of_every_size(self):
        for many, to in itertools.product(range(10), repeat=2):
            for row in rows_of_maps(many, to):
                self.assert_map((to, row))

    def test_all_small_pairs_by_the_words_of_the_document(self):
        for to, many in itertools.product(range(-1, 5), range(5)):
            for row in itertools.product(range(-1, 5), repeat=many):
                told = to >= 0 and all(0 <= part <= to - 1 for part in row)
                self.assertIs(is_map((to, row)), told, repr((to, row)))


class WrongRowTest(MapsTestCase):
    def assert_no_map_with_part(self, many, to, part):
        for row in rows_of_maps(many, to):
            for place in range(many):
                self.assert_no_map((to, with_part(row, place, part)))

    def test_number_of_to_or_greater(self):
        for many, to in itertools.product(range(1, 10), range(1, 10)):
            for part in (to, to + 1, 10, 10 ** 30):
                self.assert_no_map_with_part(many, to, part)

    def test_number_below_0(self):
        for many, to in itertools.product(range(1, 10), range(1, 10)):
            for part in (-1, -to, -9, -10 ** 30):
                self.assert_no_map_with_part(many, to, part)

    def test_nothing_can_be_led_into_no_things(self):
        for many in range(1, 10):
            for part in (0, 1, -1):
                self.assert_no_map((0, (part,) * many))

    def test_no_whole_number_in_the_row(self):
        for many, to in itertools.product((1, 2, 3, 9), (1, 2, 3, 9)):
            for part in NO_WHOLE_NUMBERS:
                self.assert_no_map_with_part(many, to, part)

    def test_row_of_ten_things_or_more(self):
        for to in range(1, 11):
            for many in (10, 11, 81):
                self.assert_no_map((to, (0,) * many))
                self.assert_no_map((to, (to - 1,) * many))

    def test_other_things_in_the_place_of_the_row(self):
        for to in range(10):
            for row in (None, True, False, "", "0", "00", [], [0], [0, 0], 0, 1, -1, {}, {0: 0}):
                self.assert_no_map((to, row))


class WrongToTest(MapsTestCase):
    def test_to_of_ten_or_more(self):
        for to in (10, 11, 81, 10 ** 30):
            for row in ((), (0,), (0, 2, 2), (0,) * 9, (9,)):
                self.assert_no_map((to, row))

    def test_to_below_0(self):
        for to in (-1, -2, -9, -10 ** 30):
            for row in ((), (0,), (-1,), (to,), (to - 1,)):
                self.assert_no_map((to, row))

    def test_no_whole_number_in_the_place_of_to(self):
        for to in NO_WHOLE_NUMBERS:
            for row in ((), (0,), (0, 0), (1,), (None,), ("",), ((),), (False,)):
                self.assert_no_map((to, row))


class WrongPairTest(MapsTestCase):
    def test_list_in_the_place_of_the_pair_or_of_the_row(self):
        for thing in (
            [0, ()], [3, (0, 2, 2)], [1, (0,)], [3, [0, 2, 2]],
            (0, []), (3, [0, 2, 2]), (1, [0]), ([], ()), ([3], (0, 2, 2)), (3, ([0], 2, 2)),
        ):
            self.assert_no_map(thing)

    def test_tuple_of_none_one_or_three_parts(self):
        for thing in (
            (), (0,), (3,), ((),), ((0, 2, 2),), ((3, (0, 2, 2)),),
            (0, (), ()), (3, (0, 2, 2), (0, 2, 2)), (3, (0, 2, 2), None), (3, 0, 2), (3, 0, 2, 2),
        ):
            self.assert_no_map(thing)

    def test_parts_the_other_way_round(self):
        self.assert_no_map(((), 0))
        self.assert_no_map(((0, 2, 2), 3))

    def test_things_by_themselves(self):
        for thing in (
            0, 1, 3, 9, 10, -1, 10 ** 30, True, False, None,
            "", "0", "ab", "0:", "3: 0 2 2", "(0, ())",
            [], [0], [0, 1], [None], [[]], (None,), (0, 1), ((), ()), (None, None), ("3", "0"),
        ):
            self.assert_no_map(thing)

    def test_things_some_thirty_deep(self):
        for inner in (0, True, None, "", [], (), (0, ()), (3, (0, 2, 2))):
            for wrap in (in_list, in_tuple, in_pair):
                for depth in (29, 30, 31, 35):
                    thing = deep(inner, wrap, depth)
                    self.assert_no_map(thing)
                    self.assert_no_map((3, (0, thing, 2)))
                    self.assert_no_map((thing, ()))


class AskedAgainTest(MapsTestCase):
    def test_nothing_handed_in_is_changed_and_the_same_is_told_again(self):
        for thing in (
            (3, (0, 2, 2)), (0, ()), [3, [0, 2, 2]], (3, [0, 2, 2]), [0, ()],
            (3, (0, [2], 2)), ([3], (0,)), [], [[1, [2]], "a"], deep([0, 1], in_list, 30),
        ):
            before = copy.deepcopy(thing)
            first = is_map(thing)
            self.assertEqual(thing, before)
            self.assertIs(is_map(thing), first)
            self.assertEqual(thing, before)


if __name__ == "__main__":
    unittest.main()
