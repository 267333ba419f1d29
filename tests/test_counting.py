"""[0.2] (e) and [6.1]: all maps of a size, and how many there are of each kind."""

import itertools
import math
import unittest

from mapweave.counting import all_maps, count, count_still
from mapweave.maps import is_map
from mapweave.weaving import comes_to_all, parts_all, then
from samples import SamplesTestCase, every_into_itself, every_map, put_together

KINDS = ("any", "parts", "all")


def nothing_twice(one):
    return len(set(one[1])) == len(one[1])


def nothing_left_out(one):
    return set(one[1]) == set(range(one[0]))


def maps_onto(many, to):
    """How many maps come to all, by taking away those that leave something out."""
    return sum((-1) ** left_out * math.comb(to, left_out) * (to - left_out) ** many for left_out in range(to + 1))


def still_maps_up_to(most):
    """How many maps are the same when done twice, by the things that go to where thing 0 goes."""
    told = [1]
    for many in range(most):
        told.append(sum(math.comb(many, k) * (k + 1) * told[many - k] for k in range(many + 1)))
    return told


class AllMapsTest(SamplesTestCase):
    def test_named_sizes(self):
        self.assert_told(all_maps(2, 2), ((2, (0, 0)), (2, (0, 1)), (2, (1, 0)), (2, (1, 1))))
        self.assert_told(all_maps(1, 3), ((3, (0,)), (3, (1,)), (3, (2,))))
        self.assert_told(all_maps(3, 1), ((1, (0, 0, 0)),))

    def test_no_things(self):
        for to in range(6):
            self.assert_told(all_maps(0, to), ((to, ()),))

    def test_a_to_of_0(self):
        for many in range(1, 6):
            self.assert_told(all_maps(many, 0), ())

    def test_every_size(self):
        for many, to in itertools.product(range(5), repeat=2):
            told = all_maps(many, to)
            self.assert_told(told, tuple(every_map(many, to)))
            self.assertTrue(all(is_map(one) for one in told))
            rows = [one[1] for one in told]
            self.assertEqual(rows, sorted(set(rows)))
            self.assertEqual(len(told), to ** many)

    def test_somewhat_beyond(self):
        for many, to in ((5, 4), (4, 5), (5, 5), (6, 3), (9, 2), (2, 9), (1, 12), (12, 1)):
            self.assert_told(all_maps(many, to), tuple(every_map(many, to)))


class CountTest(SamplesTestCase):
    def assert_counts(self, many, to, counts):
        for kind, expected in zip(KINDS, counts):
            self.assert_told(count(many, to, kind), expected)

    def test_named_sizes(self):
        self.assert_counts(3, 2, (8, 0, 6))
        self.assert_counts(2, 3, (9, 6, 0))
        self.assert_counts(3, 3, (27, 6, 6))
        self.assert_counts(4, 2, (16, 0, 14))
        self.assert_counts(4, 3, (81, 0, 36))

    def test_no_things(self):
        self.assert_counts(0, 0, (1, 1, 1))
        for to in range(1, 31):
            self.assert_counts(0, to, (1, 1, 0))

    def test_a_to_of_0(self):
        for many in range(1, 31):
            self.assert_counts(many, 0, (0, 0, 0))

    def test_one_thing_and_a_to_of_1(self):
        self.assert_counts(1, 1, (1, 1, 1))
        for many in range(2, 31):
            self.assert_counts(many, 1, (1, 0, 1))
            self.assert_counts(1, many, (many, many, 0))

    def test_all_maps_gone_through(self):
        for many, to in itertools.product(range(6), repeat=2):
            maps = every_map(many, to)
            parting = [one for one in maps if nothing_twice(one)]
            coming = [one for one in maps if nothing_left_out(one)]
            self.assert_counts(many, to, (len(maps), len(parting), len(coming)))

    def test_all_maps_of_the_program_gone_through(self):
        for many, to in itertools.product(range(5), repeat=2):
            maps = all_maps(many, to)
            parting = [one for one in maps if parts_all(one)]
            coming = [one for one in maps if comes_to_all(one)]
            self.assert_counts(many, to, (len(maps), len(parting), len(coming)))

    def test_every_number_up_to_30(self):
        for many, to in itertools.product(range(31), repeat=2):
            self.assert_counts(many, to, (to ** many, math.perm(to, many), maps_onto(many, to)))

    def test_30_and_30(self):
        self.assert_counts(30, 30, (30 ** 30, math.factorial(30), math.factorial(30)))
        self.assert_counts(30, 2, (2 ** 30, 0, 2 ** 30 - 2))
        self.assert_counts(2, 30, (900, 870, 0))

    def test_maps_fall_into_those_that_come_to_all_of_some_things(self):
        for many, to in itertools.product(range(31), repeat=2):
            parts = [math.comb(to, some) * count(many, some, "all") for some in range(to + 1)]
            self.assert_told(sum(parts), count(many, to, "any"))

    def test_somewhat_beyond(self):
        for many, to in ((31, 30), (30, 31), (31, 31), (40, 12), (12, 40), (60, 60)):
            self.assert_counts(many, to, (to ** many, math.perm(to, many), maps_onto(many, to)))


class CountStillTest(SamplesTestCase):
    def test_named_numbers(self):
        for many, expected in enumerate((1, 1, 3, 10, 41, 196, 1057)):
            self.assert_told(count_still(many), expected)

    def test_all_maps_gone_through(self):
        for many in range(7):
            still = [one for one in every_into_itself(many) if put_together(one, one) == one]
            self.assert_told(count_still(many), len(still))

    def test_all_maps_of_the_program_gone_through(self):
        for many in range(5):
            still = [one for one in all_maps(many, many) if then(one, one) == one]
            self.assert_told(count_still(many), len(still))

    def test_every_number_up_to_30_and_somewhat_beyond(self):
        for many, expected in enumerate(still_maps_up_to(40)):
            self.assert_told(count_still(many), expected)


if __name__ == "__main__":
    unittest.main()
