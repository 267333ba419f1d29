"""[4.1], [4.2] and [4.3]: maps that meet, join, agree or are made to agree, and two maps made one."""

import itertools
import unittest

from mapweave.errors import NoFit
from mapweave.meeting import agreed, alike_made, joined, met, paired, stacked
from mapweave.weaving import then
from samples import SamplesTestCase, every_map, every_map_up_to, put_together, some_maps

SIZES = (0, 1, 2, 5, 8, 9, 12)
GREAT_SIZES = (9, 20, 81)


def pairs_with(first_maps, second_maps):
    return list(itertools.product(first_maps, second_maps))


def small_pairs():
    return pairs_with(every_map_up_to(3, 3), every_map_up_to(3, 3))


def with_same_to(sizes):
    for many, other_many, to in itertools.product(sizes, repeat=3):
        yield from pairs_with(some_maps(many, to), some_maps(other_many, to))


def of_as_many(sizes):
    for many, to, other_to in itertools.product(sizes, repeat=3):
        yield from pairs_with(some_maps(many, to), some_maps(many, other_to))


def of_as_many_with_same_to(sizes):
    for many, to in itertools.product(sizes, repeat=2):
        yield from pairs_with(some_maps(many, to), some_maps(many, to))


def numbers_of_classes(many, links):
    """For each of many things the number of its class: linked things share one, which the first of them opens."""
    near = {k: set() for k in range(many)}
    for k, l in links:
        near[k].add(l)
        near[l].add(k)
    numbers = [None] * many
    found = 0
    for k in range(many):
        if numbers[k] is None:
            waiting = [k]
            while waiting:
                thing = waiting.pop()
                if numbers[thing] is None:
                    numbers[thing] = found
                    waiting.extend(near[thing])
            found += 1
    return (found, tuple(numbers))


class MetTest(SamplesTestCase):
    def assert_met(self, one, other):
        many = range(len(one[1]))
        pairs = [(k, l) for k in many for l in range(len(other[1])) if one[1][k] == other[1][l]]
        first = (len(one[1]), tuple(k for k, l in pairs))
        second = (len(other[1]), tuple(l for k, l in pairs))
        self.assert_told(met(one, other), (first, second))

    def assert_fits(self, one, other):
        first, second = met(one, other)
        self.assert_map_of(first, len(second[1]), len(one[1]))
        self.assert_map_of(second, len(first[1]), len(other[1]))
        self.assert_told(then(first, one), then(second, other))

    def test_named_maps(self):
        self.assert_told(met((3, (0, 2, 2)), (3, (2, 0))), ((3, (0, 1, 2)), (2, (1, 0, 0))))
        self.assert_told(met((2, (1, 1)), (2, (1, 0, 1))), ((2, (0, 0, 1, 1)), (3, (0, 2, 0, 2))))
        self.assert_told(met((4, (3, 0)), (4, (1, 2))), ((2, ()), (2, ())))
        self.assert_told(met((9, (8,)), (9, (8,))), ((1, (0,)), (1, (0,))))

    def test_no_things_and_a_to_of_0(self):
        self.assert_told(met((0, ()), (0, ())), ((0, ()), (0, ())))
        self.assert_told(met((4, ()), (4, ())), ((0, ()), (0, ())))
        self.assert_told(met((4, ()), (4, (0, 3, 3))), ((0, ()), (3, ())))
        self.assert_told(met((4, (0, 3, 3)), (4, ())), ((3, ()), (0, ())))

    def test_every_small_pair(self):
        for one, other in small_pairs():
            if one[0] == other[0]:
                self.assert_met(one, other)
                self.assert_fits(one, other)

    def test_of_0_to_5_things(self):
        for many, other_many, to in itertools.product(range(6), range(6), range(6)):
            for one, other in pairs_with(some_maps(many, to), some_maps(other_many, to)):
                self.assert_met(one, other)
                self.assert_fits(one, other)

    def test_maps_of_every_size(self):
        for one, other in with_same_to(SIZES):
            self.assert_met(one, other)
            self.assert_fits(one, other)

    def test_nine_things_each(self):
        first, second = met((1, (0,) * 9), (1, (0,) * 9))
        self.assert_told(first, (9, tuple(k // 9 for k in range(81))))
        self.assert_told(second, (9, tuple(k % 9 for k in range(81))))
        self.assert_met((9, (8,) * 9), (9, (8,) * 9))

    def test_a_to_above_9(self):
        self.assert_told(met((10, (9, 0)), (10, (0, 9, 9))), ((2, (0, 0, 1)), (3, (1, 2, 0))))
        self.assert_told(met((81, (80,)), (81, (79, 80))), ((1, (0,)), (2, (1,))))

    def test_greater_maps(self):
        for one, other in with_same_to(GREAT_SIZES):
            self.assert_met(one, other)

    def test_to_unlike(self):
        for one, other in small_pairs():
            if one[0] != other[0]:
                self.assert_refused(NoFit, met, one, other)
        self.assert_refused(NoFit, met, (0, ()), (1, ()))
        self.assert_refused(NoFit, met, (9, (0,)), (10, (0,)))
        self.assert_refused(NoFit, met, (81, (0, 1)), (80, (0, 1)))


class AgreedTest(SamplesTestCase):
    def assert_agreed(self, one, other):
        row = tuple(k for k in range(len(one[1])) if one[1][k] == other[1][k])
        self.assert_told(agreed(one, other), (len(one[1]), row))

    def assert_fits(self, one, other):
        told = agreed(one, other)
        self.assertTrue(all(told[1][k] < told[1][k + 1] for k in range(len(told[1]) - 1)), repr(told))
        self.assert_told(then(told, one), then(told, other))

    def test_named_maps(self):
        self.assert_told(agreed((3, (0, 2, 2, 1)), (3, (1, 2, 0, 1))), (4, (1, 3)))
        self.assert_told(agreed((3, (0, 1)), (3, (1, 0))), (2, ()))
        self.assert_told(agreed((9, (8, 7, 6)), (9, (8, 7, 6))), (3, (0, 1, 2)))

    def test_no_things_and_a_to_of_0(self):
        self.assert_told(agreed((0, ()), (0, ())), (0, ()))
        self.assert_told(agreed((7, ()), (7, ())), (0, ()))

    def test_every_small_pair(self):
        for one, other in small_pairs():
            if one[0] == other[0] and len(one[1]) == len(other[1]):
                self.assert_agreed(one, other)
                self.assert_fits(one, other)

    def test_of_0_to_5_things(self):
        for one, other in of_as_many_with_same_to(range(6)):
            self.assert_agreed(one, other)
            self.assert_fits(one, other)

    def test_nine_things(self):
        self.assert_told(agreed((1, (0,) * 9), (1, (0,) * 9)), (9, (0, 1, 2, 3, 4, 5, 6, 7, 8)))
        self.assert_told(agreed((9, (0,) * 8 + (8,)), (9, (1,) * 8 + (8,))), (9, (8,)))

    def test_maps_of_every_size_and_greater(self):
        for one, other in of_as_many_with_same_to(SIZES + GREAT_SIZES):
            self.assert_agreed(one, other)
            self.assert_fits(one, other)

    def test_what_does_not_fit(self):
        for one, other in small_pairs():
            if one[0] != other[0] or len(one[1]) != len(other[1]):
                self.assert_refused(NoFit, agreed, one, other)
        self.assert_refused(NoFit, agreed, (0, ()), (1, ()))
        self.assert_refused(NoFit, agreed, (1, (0,)), (1, ()))
        self.assert_refused(NoFit, agreed, (9, (0,)), (10, (0,)))
        self.assert_refused(NoFit, agreed, (9, (0,) * 9), (9, (0,) * 10))


class JoinedTest(SamplesTestCase):
    def assert_joined(self, one, other):
        links = [(thing, one[0] + other[1][k]) for k, thing in enumerate(one[1])]
        to, numbers = numbers_of_classes(one[0] + other[0], links)
        self.assert_told(joined(one, other), ((to, numbers[:one[0]]), (to, numbers[one[0]:])))

    def assert_fits(self, one, other):
        first, second = joined(one, other)
        self.assert_map_of(first, one[0], second[0])
        self.assert_map_of(second, other[0], first[0])
        self.assert_told(then(one, first), then(other, second))

    def test_named_maps(self):
        self.assert_told(joined((3, (0, 2, 2)), (2, (1, 0, 1))), ((2, (0, 1, 0)), (2, (0, 0))))
        self.assert_told(joined((2, (1,)), (2, (0,))), ((3, (0, 1)), (3, (1, 2))))
        self.assert_told(joined((2, (1, 0)), (3, (0, 2))), ((3, (0, 1)), (3, (1, 2, 0))))
        self.assert_told(joined((1, (0,)), (9, (8,))), ((9, (0,)), (9, (1, 2, 3, 4, 5, 6, 7, 8, 0))))

    def test_no_things(self):
        self.assert_told(joined((2, ()), (3, ())), ((5, (0, 1)), (5, (2, 3, 4))))
        self.assert_told(joined((9, ()), (9, ())), ((18, tuple(range(9))), (18, tuple(range(9, 18)))))

    def test_a_to_of_0(self):
        self.assert_told(joined((0, ()), (0, ())), ((0, ()), (0, ())))
        self.assert_told(joined((0, ()), (3, ())), ((3, ()), (3, (0, 1, 2))))
        self.assert_told(joined((3, ()), (0, ())), ((3, (0, 1, 2)), (3, ())))

    def test_every_small_pair(self):
        for one, other in small_pairs():
            if len(one[1]) == len(other[1]):
                self.assert_joined(one, other)
                self.assert_fits(one, other)

    def test_of_0_to_5_things(self):
        for one, other in of_as_many(range(6)):
            self.assert_joined(one, other)
            self.assert_fits(one, other)

    def test_maps_of_every_size(self):
        for one, other in of_as_many(SIZES):
            self.assert_joined(one, other)
            self.assert_fits(one, other)

    def test_greater_maps(self):
        for one, other in of_as_many(GREAT_SIZES):
            self.assert_joined(one, other)

    def test_chains_in_which_much_is_counted_as_one(self):
        for many in (2, 5, 9, 12):
            up = tuple(k // 2 for k in range(many))
            across = tuple((k + 1) // 2 for k in range(many))
            one, other = (many // 2 + 1, up), (many // 2 + 1, across)
            self.assert_joined(one, other)
            self.assert_joined((one[0], up[::-1]), (other[0], across[::-1]))
            self.assert_joined(other, one)

    def test_one_chain_of_all_things(self):
        # 0 and 0, 1 and 0, 1 and 1, .. : the last link alone makes the last thing one with the first.
        one, other = (5, (0, 1, 1, 2, 2, 3, 3, 4, 4)), (5, (0, 0, 1, 1, 2, 2, 3, 3, 4))
        self.assert_told(joined(one, other), ((1, (0,) * 5), (1, (0,) * 5)))
        backwards = ((5, one[1][::-1]), (5, other[1][::-1]))
        self.assert_told(joined(*backwards), ((1, (0,) * 5), (1, (0,) * 5)))

    def test_two_chains_made_one_at_last(self):
        one, other = (4, (0, 1, 2, 3, 0)), (4, (0, 0, 2, 2, 2))
        self.assert_told(joined(one, other), ((3, (0, 0, 0, 0)), (3, (0, 1, 0, 2))))

    def test_not_of_as_many_things(self):
        for one, other in small_pairs():
            if len(one[1]) != len(other[1]):
                self.assert_refused(NoFit, joined, one, other)
        self.assert_refused(NoFit, joined, (0, ()), (1, (0,)))
        self.assert_refused(NoFit, joined, (1, (0,)), (1, ()))
        self.assert_refused(NoFit, joined, (1, (0,) * 9), (1, (0,) * 10))
        self.assert_refused(NoFit, joined, (1, (0,) * 81), (1, (0,) * 80))


class AlikeMadeTest(SamplesTestCase):
    def assert_alike_made(self, one, other):
        self.assert_told(alike_made(one, other), numbers_of_classes(one[0], list(zip(one[1], other[1]))))

    def assert_fits(self, one, other):
        told = alike_made(one, other)
        self.assert_map_of(told, one[0], told[0])
        self.assert_told(then(one, told), then(other, told))

    def test_named_maps(self):
        self.assert_told(alike_made((4, (0, 1)), (4, (1, 2))), (2, (0, 0, 0, 1)))
        self.assert_told(alike_made((4, (3, 1)), (4, (0, 1))), (3, (0, 1, 2, 0)))
        self.assert_told(alike_made((5, (1, 2)), (5, (4, 3))), (3, (0, 1, 2, 2, 1)))
        self.assert_told(alike_made((3, (0, 1, 2)), (3, (0, 1, 2))), (3, (0, 1, 2)))

    def test_no_things_and_a_to_of_0(self):
        self.assert_told(alike_made((0, ()), (0, ())), (0, ()))
        self.assert_told(alike_made((1, ()), (1, ())), (1, (0,)))
        self.assert_told(alike_made((9, ()), (9, ())), (9, (0, 1, 2, 3, 4, 5, 6, 7, 8)))

    def test_every_small_pair(self):
        for one, other in small_pairs():
            if one[0] == other[0] and len(one[1]) == len(other[1]):
                self.assert_alike_made(one, other)
                self.assert_fits(one, other)

    def test_of_up_to_5_things(self):
        for one, other in of_as_many_with_same_to(range(6)):
            self.assert_alike_made(one, other)
            self.assert_fits(one, other)

    def test_every_pair_of_two_things_into_five(self):
        for one, other in pairs_with(every_map(2, 5), every_map(2, 5)):
            self.assert_alike_made(one, other)

    def test_maps_of_every_size_and_greater(self):
        for one, other in of_as_many_with_same_to(SIZES + GREAT_SIZES):
            self.assert_alike_made(one, other)
            self.assert_fits(one, other)

    def test_chains_in_which_much_is_counted_as_one(self):
        for to in (2, 5, 9, 12, 81):
            up, across = tuple(range(to - 1)), tuple(range(1, to))
            self.assert_told(alike_made((to, up), (to, across)), (1, (0,) * to))
            self.assert_told(alike_made((to, across), (to, up)), (1, (0,) * to))
            self.assert_told(alike_made((to, up[::-1]), (to, across[::-1])), (1, (0,) * to))
            self.assert_told(alike_made((to, across[::-1]), (to, up[::-1])), (1, (0,) * to))

    def test_two_chains(self):
        self.assert_told(alike_made((9, (8, 6, 4, 2)), (9, (6, 4, 2, 0))), (5, (0, 1, 0, 2, 0, 3, 0, 4, 0)))
        self.assert_told(alike_made((6, (5, 4, 3, 2)), (6, (3, 2, 1, 0))), (2, (0, 1, 0, 1, 0, 1)))

    def test_what_does_not_fit(self):
        for one, other in small_pairs():
            if one[0] != other[0] or len(one[1]) != len(other[1]):
                self.assert_refused(NoFit, alike_made, one, other)
        self.assert_refused(NoFit, alike_made, (0, ()), (1, ()))
        self.assert_refused(NoFit, alike_made, (1, (0,)), (1, ()))
        self.assert_refused(NoFit, alike_made, (9, (0,)), (10, (0,)))
        self.assert_refused(NoFit, alike_made, (9, (0,) * 9), (9, (0,) * 10))


class PairedTest(SamplesTestCase):
    def assert_paired(self, first, second):
        told = paired(first, second)
        self.assert_map_of(told, len(first[1]), first[0] * second[0])
        self.assert_told(tuple(thing // second[0] for thing in told[1]), first[1])
        self.assert_told(tuple(thing % second[0] for thing in told[1]), second[1])

    def test_named_maps(self):
        self.assert_told(paired((3, (0, 2)), (2, (1, 1))), (6, (1, 5)))
        self.assert_told(paired((2, (1, 1)), (3, (0, 2))), (6, (3, 5)))
        self.assert_told(paired((1, (0, 0)), (9, (8, 3))), (9, (8, 3)))
        self.assert_told(paired((9, (8, 3)), (1, (0, 0))), (9, (8, 3)))

    def test_no_things_and_a_to_of_0(self):
        self.assert_told(paired((0, ()), (0, ())), (0, ()))
        self.assert_told(paired((3, ()), (4, ())), (12, ()))
        self.assert_told(paired((0, ()), (4, ())), (0, ()))
        self.assert_told(paired((4, ()), (0, ())), (0, ()))

    def test_every_small_pair(self):
        for first, second in small_pairs():
            if len(first[1]) == len(second[1]):
                self.assert_paired(first, second)

    def test_nine_into_nine(self):
        self.assert_told(paired((9, (8,)), (9, (8,))), (81, (80,)))
        self.assert_paired((9, tuple(range(9))), (9, tuple(reversed(range(9)))))

    def test_maps_of_every_size_and_greater(self):
        for sizes in (SIZES, GREAT_SIZES):
            for first, second in of_as_many(sizes):
                self.assert_paired(first, second)

    def test_not_of_as_many_things(self):
        for first, second in small_pairs():
            if len(first[1]) != len(second[1]):
                self.assert_refused(NoFit, paired, first, second)
        self.assert_refused(NoFit, paired, (0, ()), (1, (0,)))
        self.assert_refused(NoFit, paired, (1, (0,)), (0, ()))
        self.assert_refused(NoFit, paired, (1, (0,) * 9), (1, (0,) * 10))


class StackedTest(SamplesTestCase):
    def assert_stacked(self, first, second):
        told = stacked(first, second)
        many = len(first[1])
        self.assert_map_of(told, many + len(second[1]), first[0])
        self.assert_told(put_together((many + len(second[1]), tuple(range(many))), told), first)
        self.assert_told(told[1][many:], second[1])

    def test_named_maps(self):
        self.assert_told(stacked((3, (0, 2)), (3, (1, 0, 1))), (3, (0, 2, 1, 0, 1)))
        self.assert_told(stacked((3, (1, 0, 1)), (3, (0, 2))), (3, (1, 0, 1, 0, 2)))

    def test_no_things_and_a_to_of_0(self):
        self.assert_told(stacked((0, ()), (0, ())), (0, ()))
        self.assert_told(stacked((5, ()), (5, ())), (5, ()))
        self.assert_told(stacked((5, ()), (5, (4,))), (5, (4,)))
        self.assert_told(stacked((5, (4,)), (5, ())), (5, (4,)))

    def test_every_small_pair(self):
        for first, second in small_pairs():
            if first[0] == second[0]:
                self.assert_stacked(first, second)

    def test_nine_things_each(self):
        row = tuple(range(9))
        self.assert_told(stacked((9, row), (9, row[::-1])), (9, row + row[::-1]))

    def test_maps_of_every_size_and_greater(self):
        for sizes in (SIZES, GREAT_SIZES):
            for first, second in with_same_to(sizes):
                self.assert_stacked(first, second)

    def test_to_unlike(self):
        for first, second in small_pairs():
            if first[0] != second[0]:
                self.assert_refused(NoFit, stacked, first, second)
        self.assert_refused(NoFit, stacked, (0, ()), (1, ()))
        self.assert_refused(NoFit, stacked, (1, (0,)), (0, ()))
        self.assert_refused(NoFit, stacked, (9, (0,)), (10, (0,)))


if __name__ == "__main__":
    unittest.main()
