"""[0.2] (a), [2.1] and [2.2]: maps put together, and the parts that a map falls into."""

import itertools
import unittest

from mapweave.errors import NoFit, NoTurn
from mapweave.weaving import comes_to_all, parts_all, same, split, then, turned
from samples import SamplesTestCase, every_map, every_map_up_to, itself, put_together, some_maps

GREAT_SIZES = ((10, 3), (3, 10), (12, 12), (9, 20), (20, 9), (81, 40), (40, 81))


def some_great_maps():
    return [one for size in GREAT_SIZES for one in some_maps(*size)]


def is_rising(row):
    return all(row[k] < row[k + 1] for k in range(len(row) - 1))


def nothing_twice(one):
    return all(one[1].count(thing) <= 1 for thing in range(one[0]))


def nothing_left_out(one):
    return all(one[1].count(thing) >= 1 for thing in range(one[0]))


class ThenTest(SamplesTestCase):
    def test_named_maps(self):
        self.assert_told(then((3, (0, 2, 2)), (4, (3, 1, 0))), (4, (3, 0, 0)))
        self.assert_told(then((2, (1, 0, 1)), (5, (4, 2))), (5, (2, 4, 2)))
        self.assert_told(then((1, (0, 0)), (9, (8,))), (9, (8, 8)))

    def test_the_first_is_done_first(self):
        self.assert_told(then((3, (1, 2, 0)), (3, (1, 0, 2))), (3, (0, 2, 1)))
        self.assert_told(then((3, (1, 0, 2)), (3, (1, 2, 0))), (3, (2, 1, 0)))

    def test_no_things_and_into_no_things(self):
        self.assert_told(then((0, ()), (0, ())), (0, ()))
        self.assert_told(then((0, ()), (7, ())), (7, ()))
        self.assert_told(then((2, ()), (5, (4, 1))), (5, ()))
        self.assert_told(then((2, ()), (1, (0, 0))), (1, ()))

    def test_every_small_pair(self):
        for one, other in itertools.product(every_map_up_to(3, 3), repeat=2):
            if one[0] == len(other[1]):
                self.assert_told(then(one, other), put_together(one, other))
            else:
                self.assert_refused(NoFit, then, one, other)

    def test_maps_of_every_size(self):
        for many, between, to in itertools.product((0, 1, 5, 8, 9), repeat=3):
            for one, other in itertools.product(some_maps(many, between), some_maps(between, to)):
                self.assert_told(then(one, other), put_together(one, other))

    def test_greater_maps(self):
        for sizes in ((10, 10, 10), (9, 12, 9), (12, 9, 20), (81, 40, 81), (3, 81, 2), (0, 11, 30)):
            for one, other in itertools.product(some_maps(*sizes[:2]), some_maps(*sizes[1:])):
                self.assert_told(then(one, other), put_together(one, other))

    def test_every_order_of_brackets(self):
        for sizes in itertools.product(range(3), repeat=4):
            maps = [every_map(sizes[k], sizes[k + 1]) for k in range(3)]
            for one, other, third in itertools.product(*maps):
                self.assert_told(then(then(one, other), third), then(one, then(other, third)))

    def test_every_order_of_brackets_of_larger_maps(self):
        for sizes in itertools.product((0, 2, 5, 9, 12), repeat=4):
            maps = [some_maps(sizes[k], sizes[k + 1]) for k in range(3)]
            for one, other, third in itertools.product(*maps):
                self.assert_told(then(then(one, other), third), then(one, then(other, third)))

    def test_maps_that_do_not_fit(self):
        self.assert_refused(NoFit, then, (3, (0, 2, 2)), (3, (0, 2)))
        self.assert_refused(NoFit, then, (3, (0, 1)), (9, (0, 1, 2, 3)))
        self.assert_refused(NoFit, then, (1, ()), (0, ()))
        self.assert_refused(NoFit, then, (0, ()), (1, (0,)))
        self.assert_refused(NoFit, then, (10, (0,)), (9, (0,) * 9))
        self.assert_refused(NoFit, then, (9, (0,)), (9, (0,) * 10))

    def test_no_fit_though_nothing_is_led_beyond(self):
        self.assert_refused(NoFit, then, (3, (0, 0)), (2, (1,)))
        self.assert_refused(NoFit, then, (3, ()), (2, (1, 0)))
        self.assert_refused(NoFit, then, (2, (0, 1)), (2, (1, 0, 0)))

    def test_asked_again(self):
        one = (3, (0, 2, 2))
        other = (4, (3, 1, 0))
        first = then(one, other)
        self.assert_told((one, other), ((3, (0, 2, 2)), (4, (3, 1, 0))))
        self.assert_told(then(one, other), first)


class SameTest(SamplesTestCase):
    def test_named_maps(self):
        self.assert_told(same(0), (0, ()))
        self.assert_told(same(1), (1, (0,)))
        self.assert_told(same(3), (3, (0, 1, 2)))
        self.assert_told(same(9), (9, (0, 1, 2, 3, 4, 5, 6, 7, 8)))

    def test_nothing_is_refused_beyond_9(self):
        for many in (10, 11, 20, 81):
            self.assert_told(same(many), itself(many))

    def test_put_ahead_and_behind(self):
        for many, to in itertools.product(range(10), repeat=2):
            for one in some_maps(many, to):
                self.assert_told(then(same(many), one), one)
                self.assert_told(then(one, same(to)), one)

    def test_put_ahead_and_behind_of_greater_maps(self):
        for one in some_great_maps():
            self.assert_told(then(same(len(one[1])), one), one)
            self.assert_told(then(one, same(one[0])), one)


class PartsAllAndComesToAllTest(SamplesTestCase):
    def assert_kinds(self, one, parts, comes):
        self.assertIs(parts_all(one), parts, repr(one))
        self.assertIs(comes_to_all(one), comes, repr(one))

    def test_named_maps(self):
        self.assert_kinds((3, (0, 2, 2)), False, False)
        self.assert_kinds((3, (2, 0)), True, False)
        self.assert_kinds((2, (1, 0, 1)), False, True)
        self.assert_kinds((3, (2, 0, 1)), True, True)
        self.assert_kinds((9, (8,)), True, False)

    def test_no_things_and_into_no_things(self):
        self.assert_kinds((0, ()), True, True)
        self.assert_kinds((1, ()), True, False)
        self.assert_kinds((9, ()), True, False)

    def test_every_small_map(self):
        for one in every_map_up_to(5, 5):
            self.assert_kinds(one, nothing_twice(one), nothing_left_out(one))

    def test_nine_things_and_more(self):
        for many in (9, 10, 12, 81):
            nearly = (many, tuple(range(many - 1)) + (0,))
            self.assert_kinds(itself(many), True, True)
            self.assert_kinds((many, itself(many)[1][::-1]), True, True)
            self.assert_kinds(nearly, False, False)
            self.assert_kinds((many + 1, itself(many)[1]), True, False)
            self.assert_kinds((many - 1, nearly[1]), False, True)

    def test_greater_maps(self):
        for one in some_great_maps():
            self.assert_kinds(one, nothing_twice(one), nothing_left_out(one))


class SplitTest(SamplesTestCase):
    def assert_is_split(self, one):
        pair = split(one)
        self.assertIs(type(pair), tuple, repr(one))
        self.assertEqual(len(pair), 2, repr(one))
        first, second = pair
        self.assert_map_of(first, len(one[1]), len(second[1]))
        self.assert_map_of(second, first[0], one[0])
        self.assertTrue(nothing_left_out(first), repr(one))
        self.assertTrue(is_rising(second[1]), repr(one))
        self.assert_told(put_together(first, second), one)

    def test_named_maps(self):
        self.assert_told(split((3, (0, 2, 2))), ((2, (0, 1, 1)), (3, (0, 2))))
        self.assert_told(split((5, (4, 1, 4))), ((2, (1, 0, 1)), (5, (1, 4))))
        self.assert_told(split((9, (8,))), ((1, (0,)), (9, (8,))))
        self.assert_told(split((3, (2, 0, 1))), ((3, (2, 0, 1)), (3, (0, 1, 2))))

    def test_no_things_and_into_no_things(self):
        self.assert_told(split((0, ())), ((0, ()), (0, ())))
        self.assert_told(split((6, ())), ((0, ()), (6, ())))

    def test_every_map_of_up_to_six_things_into_up_to_six(self):
        for one in every_map_up_to(6, 6):
            self.assert_is_split(one)

    def test_nine_things_and_more(self):
        for one in some_maps(9, 9) + some_great_maps():
            self.assert_is_split(one)

    def test_the_program_tells_the_kinds_of_both_parts(self):
        for one in every_map_up_to(4, 4) + some_great_maps():
            first, second = split(one)
            self.assertIs(comes_to_all(first), True)
            self.assertIs(parts_all(second), True)
            self.assert_told(then(first, second), one)

    def test_in_one_way(self):
        for many, to in itertools.product(range(4), repeat=2):
            firsts = [one for one in every_map_up_to(many, many) if len(one[1]) == many and comes_to_all(one)]
            seconds = [one for one in every_map_up_to(to, to) if one[0] == to and parts_all(one) and is_rising(one[1])]
            pairs = [(first, second) for first in firsts for second in seconds if first[0] == len(second[1])]
            for one in every_map(many, to):
                self.assert_told([pair for pair in pairs if then(*pair) == one], [split(one)])

    def test_asked_again(self):
        one = (5, (4, 1, 4))
        first = split(one)
        self.assert_told(one, (5, (4, 1, 4)))
        self.assert_told(split(one), first)


class TurnedTest(SamplesTestCase):
    def assert_turns(self, one):
        told = turned(one)
        self.assert_map_of(told, one[0], len(one[1]))
        self.assert_told(put_together(one, told), itself(len(one[1])))
        self.assert_told(put_together(told, one), itself(one[0]))

    def test_named_maps(self):
        self.assert_told(turned((3, (1, 2, 0))), (3, (2, 0, 1)))
        self.assert_told(turned((2, (1, 0))), (2, (1, 0)))
        self.assert_told(turned((4, (3, 0, 1, 2))), (4, (1, 2, 3, 0)))

    def test_no_things_and_one(self):
        self.assert_told(turned((0, ())), (0, ()))
        self.assert_told(turned((1, (0,))), (1, (0,)))

    def test_every_map_of_up_to_six_things_that_has_one(self):
        for many in range(7):
            for row in itertools.permutations(range(many)):
                self.assert_turns((many, row))

    def test_nine_things_and_more(self):
        for many in (9, 10, 12, 81):
            for far in range(many):
                self.assert_turns((many, tuple((k + far) % many for k in range(many))))
                self.assert_turns((many, tuple((far - k) % many for k in range(many))))

    def test_put_together_with_the_program(self):
        for row in itertools.permutations(range(5)):
            one = (5, row)
            self.assert_told(then(one, turned(one)), same(5))
            self.assert_told(then(turned(one), one), same(5))
            self.assert_told(turned(turned(one)), one)

    def test_maps_that_have_none(self):
        self.assert_refused(NoTurn, turned, (3, (0, 2, 2)))
        self.assert_refused(NoTurn, turned, (3, (0, 2)))
        self.assert_refused(NoTurn, turned, (2, (1, 0, 1)))
        self.assert_refused(NoTurn, turned, (1, ()))
        self.assert_refused(NoTurn, turned, (9, ()))
        self.assert_refused(NoTurn, turned, (1, (0, 0)))

    def test_every_small_map(self):
        for one in every_map_up_to(4, 4):
            if nothing_twice(one) and nothing_left_out(one):
                self.assert_turns(one)
            else:
                self.assert_refused(NoTurn, turned, one)

    def test_greater_maps_that_have_none(self):
        for many in (9, 10, 12, 81):
            row = tuple(range(many))
            self.assert_refused(NoTurn, turned, (many + 1, row))
            self.assert_refused(NoTurn, turned, (many, row + (0,)))
            self.assert_refused(NoTurn, turned, (many, row[1:]))
            self.assert_refused(NoTurn, turned, (many, row[:-1] + (0,)))

    def test_asked_again(self):
        one = (3, (1, 2, 0))
        first = turned(one)
        self.assert_told(one, (3, (1, 2, 0)))
        self.assert_told(turned(one), first)


if __name__ == "__main__":
    unittest.main()
