"""[5.1], [5.2] and [5.3]: maps of things into themselves."""

import itertools
import unittest

from mapweave.errors import NoFit
from mapweave.rings import beat, often, plain, renaming, ring, tail
from mapweave.weaving import then, turned
from samples import (
    SamplesTestCase,
    every_into_itself,
    itself,
    put_together,
    row_of_rings,
    some_into_themselves,
    some_names,
    with_names,
)

SIZES = (1, 2, 3, 4, 5, 6, 7, 8, 9, 10, 12, 20)

# How many maps of 1 to 9 things into themselves there are, where the same with other names counts once.
HOW_MANY_SHAPES = (1, 3, 7, 19, 47, 130, 343, 951, 2615)

NOT_INTO_ITSELF = (
    (0, ()),
    (1, ()),
    (9, ()),
    (2, (0,)),
    (1, (0, 0)),
    (3, (0, 1)),
    (2, (0, 1, 1)),
    (9, (0,) * 8),
    (8, (0,) * 9),
    (9, (0,) * 10),
    (10, (0,) * 9),
    (81, (0,) * 80),
    (80, (0,) * 81),
)


def every_small_one():
    return [one for many in range(1, 5) for one in every_into_itself(many)]


def some_of_each_size():
    return [one for many in SIZES for one in some_into_themselves(many)]


def done_one_by_one(one, times):
    told = itself(one[0])
    for _ in range(times):
        told = put_together(told, one)
    return told


def beat_gone_through(one):
    """All that comes before the first that was there before, when that one was there, and how long ago."""
    rows = []
    told = itself(one[0])
    while told[1] not in rows:
        rows.append(told[1])
        told = put_together(told, one)
    when = rows.index(told[1])
    return rows, when, len(rows) - when


def ring_gone_through(one, k):
    thing = k
    for _ in range(one[0]):
        thing = one[1][thing]
    things = [thing]
    while one[1][things[-1]] != thing:
        things.append(one[1][things[-1]])
    while things[0] != min(things):
        things = things[1:] + things[:1]
    return tuple(things)


def tail_gone_through(one, k):
    on_ring = ring_gone_through(one, k)
    steps = 0
    thing = k
    while thing not in on_ring:
        thing = one[1][thing]
        steps += 1
    return steps


def every_way_to_rename(one, other):
    if one[0] != other[0]:
        return []
    return [names for names in itertools.permutations(range(one[0])) if with_names(one, names) == other]


def numbers_that_make(many, greatest):
    if many == 0:
        return [[]]
    return [
        [first] + rest
        for first in range(min(many, greatest), 0, -1)
        for rest in numbers_that_make(many - first, first)
    ]


def shapes_up_to(most):
    """For each number of things, one map for each plain text that comes of a thing more, or of rings alone."""
    shapes = []
    for many in range(1, most + 1):
        found = {}
        for lengths in numbers_that_make(many, many):
            one = (many, row_of_rings(lengths))
            found.setdefault(plain(one), one)
        for less in shapes[-1] if shapes else []:
            for thing in range(many - 1):
                one = (many, less[1] + (thing,))
                found.setdefault(plain(one), one)
        shapes.append(list(found.values()))
    return shapes


class OftenTest(SamplesTestCase):
    def assert_often(self, one, times):
        rows, when, again = beat_gone_through(one)
        place = times if times < when else when + (times - when) % again
        self.assert_told(often(one, times), (one[0], rows[place]))

    def test_named_maps(self):
        one = (4, (1, 2, 3, 3))
        self.assert_told(often(one, 0), (4, (0, 1, 2, 3)))
        self.assert_told(often(one, 1), one)
        self.assert_told(often(one, 2), (4, (2, 3, 3, 3)))
        self.assert_told(often(one, 3), (4, (3, 3, 3, 3)))
        self.assert_told(often((3, (1, 2, 0)), 2), (3, (2, 0, 1)))
        self.assert_told(often((3, (1, 2, 0)), 10 ** 30), (3, (1, 2, 0)))
        self.assert_told(often((5, (1, 0, 3, 4, 2)), 10 ** 30 - 1), (5, (1, 0, 2, 3, 4)))

    def test_one_thing(self):
        for times in (0, 1, 2, 7, 10 ** 30):
            self.assert_told(often((1, (0,)), times), (1, (0,)))

    def test_one_by_one(self):
        for one in every_small_one():
            for times in range(8):
                self.assert_told(often(one, times), done_one_by_one(one, times))

    def test_one_by_one_of_each_size(self):
        for one in some_of_each_size():
            told = itself(one[0])
            for times in range(40):
                self.assert_told(often(one, times), told)
                told = put_together(told, one)

    def test_a_map_that_leads_each_thing_to_itself(self):
        for many, times in itertools.product(SIZES, (0, 1, 2, 999, 10 ** 30)):
            self.assert_told(often(itself(many), times), itself(many))

    def test_one_long_tail(self):
        for many in SIZES:
            one = (many, (0,) + tuple(range(many - 1)))
            for times in range(many + 3):
                self.assert_told(often(one, times), (many, tuple(max(k - times, 0) for k in range(many))))
            self.assert_told(often(one, 10 ** 30), (many, (0,) * many))

    def test_times_of_thirty_figures(self):
        nearly = [10 ** 30 - less for less in range(13)] + [10 ** 29 + more for more in range(13)]
        for one in some_of_each_size():
            for times in nearly + [10 ** 30 + 1, 2 ** 99, 2 ** 99 - 1]:
                self.assert_often(one, times)

    def test_put_together(self):
        for one in some_of_each_size():
            for times, more in ((0, 0), (0, 3), (2, 5), (10 ** 15, 10 ** 29 + 7)):
                self.assert_told(then(often(one, times), often(one, more)), often(one, times + more))

    def test_not_into_itself(self):
        for one, times in itertools.product(NOT_INTO_ITSELF, (0, 1, 2, 10 ** 30)):
            self.assert_refused(NoFit, often, one, times)


class RingAndTailTest(SamplesTestCase):
    def assert_ring_and_tail(self, one, k):
        self.assert_told(ring(one, k), ring_gone_through(one, k))
        self.assert_told(tail(one, k), tail_gone_through(one, k))

    def test_named_maps(self):
        one = (9, (1, 2, 3, 1, 0, 8, 6, 8, 5))
        rings = ((1, 2, 3), (1, 2, 3), (1, 2, 3), (1, 2, 3), (1, 2, 3), (5, 8), (6,), (5, 8), (5, 8))
        tails = (1, 0, 0, 0, 2, 0, 0, 1, 0)
        for k in range(9):
            self.assert_told(ring(one, k), rings[k])
            self.assert_told(tail(one, k), tails[k])

    def test_the_least_first_and_then_as_one_comes_to_them(self):
        one = (6, (4, 3, 0, 5, 2, 1))
        for k in (0, 2, 4):
            self.assert_told(ring(one, k), (0, 4, 2))
        for k in (1, 3, 5):
            self.assert_told(ring(one, k), (1, 3, 5))

    def test_one_thing(self):
        self.assert_told(ring((1, (0,)), 0), (0,))
        self.assert_told(tail((1, (0,)), 0), 0)

    def test_a_map_that_leads_each_thing_to_itself(self):
        for many in SIZES:
            for k in range(many):
                self.assert_told(ring(itself(many), k), (k,))
                self.assert_told(tail(itself(many), k), 0)

    def test_one_long_tail(self):
        for many in SIZES + (81,):
            one = (many, (0,) + tuple(range(many - 1)))
            for k in range(many):
                self.assert_told(ring(one, k), (0,))
                self.assert_told(tail(one, k), k)

    def test_one_long_tail_to_the_last_thing(self):
        for many in SIZES + (81,):
            one = (many, tuple(min(k + 1, many - 1) for k in range(many)))
            for k in range(many):
                self.assert_told(ring(one, k), (many - 1,))
                self.assert_told(tail(one, k), many - 1 - k)

    def test_rings_of_many_lengths_at_once(self):
        one = (81, row_of_rings((1, 2, 3, 5, 7, 11, 13, 17, 22)))
        for k in range(81):
            self.assert_ring_and_tail(one, k)

    def test_each_thing_of_every_small_map(self):
        for one in every_small_one():
            for k in range(one[0]):
                self.assert_ring_and_tail(one, k)

    def test_each_thing_of_maps_of_each_size(self):
        for one in some_of_each_size() + some_into_themselves(81):
            for k in range(one[0]):
                self.assert_ring_and_tail(one, k)

    def test_not_into_itself(self):
        for one in NOT_INTO_ITSELF:
            self.assert_refused(NoFit, ring, one, 0)
            self.assert_refused(NoFit, tail, one, 0)


class BeatTest(SamplesTestCase):
    def assert_beat(self, one):
        rows, when, again = beat_gone_through(one)
        self.assert_told(beat(one), (when, again))

    def test_named_maps(self):
        self.assert_told(beat((4, (1, 2, 3, 3))), (3, 1))
        self.assert_told(beat((5, (1, 0, 3, 4, 2))), (0, 6))
        self.assert_told(beat((4, (1, 0, 0, 2))), (2, 2))
        self.assert_told(beat((9, (1, 2, 3, 1, 0, 8, 6, 8, 5))), (2, 6))

    def test_one_thing(self):
        self.assert_told(beat((1, (0,))), (0, 1))

    def test_a_map_that_leads_each_thing_to_itself(self):
        for many in SIZES + (81,):
            self.assert_told(beat(itself(many)), (0, 1))

    def test_one_long_tail(self):
        for many in SIZES + (81,):
            self.assert_told(beat((many, (0,) + tuple(range(many - 1)))), (many - 1, 1))

    def test_rings_of_many_lengths_at_once(self):
        self.assert_told(beat((9, row_of_rings((4, 5)))), (0, 20))
        self.assert_told(beat((9, row_of_rings((2, 3, 4)))), (0, 12))
        self.assert_told(beat((9, row_of_rings((3, 6)))), (0, 6))
        self.assert_told(beat((9, row_of_rings((6, 3)))), (0, 6))
        self.assert_told(beat((20, row_of_rings((4, 6, 10)))), (0, 60))
        self.assert_told(beat((81, row_of_rings((1, 2, 3, 5, 7, 11, 13, 17, 22)))), (0, 510510))

    def test_the_longest_tail_is_not_on_the_longest_ring(self):
        self.assert_told(beat((9, (1, 2, 0, 0, 4, 4, 5, 6, 7))), (4, 3))

    def test_every_map_of_up_to_five_things(self):
        for one in every_small_one() + every_into_itself(5):
            self.assert_beat(one)

    def test_maps_of_each_size(self):
        for one in some_of_each_size() + some_into_themselves(81):
            self.assert_beat(one)

    def test_what_often_tells(self):
        for one in some_of_each_size():
            when, again = beat(one)
            self.assert_told(often(one, when + again), often(one, when))
            if when > 0:
                self.assertNotEqual(often(one, when - 1 + again), often(one, when - 1), repr(one))

    def test_not_into_itself(self):
        for one in NOT_INTO_ITSELF:
            self.assert_refused(NoFit, beat, one)


class PlainTest(SamplesTestCase):
    def assert_same_plain(self, one, other):
        self.assertIs(type(plain(one)), str)
        self.assertEqual(plain(one), plain(other), repr((one, other)))

    def assert_unlike_plain(self, one, other):
        self.assertNotEqual(plain(one), plain(other), repr((one, other)))

    def test_named_maps(self):
        self.assert_same_plain((3, (1, 1, 1)), (3, (2, 2, 2)))
        self.assert_same_plain((5, (1, 0, 3, 4, 2)), (5, (2, 3, 4, 1, 0)))
        self.assert_same_plain((4, (0, 0, 1, 1)), (4, (2, 2, 3, 3)))
        self.assert_unlike_plain((4, (0, 0, 1, 1)), (4, (0, 0, 1, 2)))
        self.assert_unlike_plain((3, (0, 1, 2)), (3, (0, 2, 1)))

    def test_unlike_many_things(self):
        texts = [plain(itself(many)) for many in SIZES]
        texts += [plain((many, (0,) * many)) for many in SIZES if many > 1]
        self.assertEqual(len(set(texts)), len(texts))

    def test_trees_on_a_ring_in_unlike_order(self):
        # A ring of three with a twig, two twigs and none: round one way and round the other.
        self.assert_unlike_plain((6, (1, 2, 0, 0, 1, 1)), (6, (1, 2, 0, 0, 2, 2)))
        self.assert_same_plain((6, (1, 2, 0, 0, 1, 1)), (6, (1, 2, 0, 1, 2, 2)))
        self.assert_same_plain((6, (1, 2, 0, 0, 1, 1)), (6, (2, 0, 1, 0, 2, 2)))

    def test_rings_that_begin_with_the_same_texts(self):
        # Rings of four with twigs on two things: side by side, or face to face.
        side, face = (6, (1, 2, 3, 0, 0, 1)), (6, (1, 2, 3, 0, 0, 2))
        self.assert_unlike_plain(side, face)
        self.assert_same_plain(side, (6, (1, 2, 3, 0, 3, 0)))
        self.assert_same_plain(face, (6, (1, 2, 3, 0, 3, 1)))

    def test_one_ring_or_two_with_the_same_trees(self):
        self.assert_unlike_plain((4, (1, 0, 3, 2)), (4, (1, 2, 3, 0)))
        self.assert_unlike_plain((6, (1, 0, 3, 2, 0, 1)), (6, (1, 0, 3, 2, 0, 2)))
        self.assert_unlike_plain((6, (1, 2, 0, 4, 5, 3)), (6, (1, 2, 3, 4, 5, 0)))

    def test_the_same_twigs_on_unlike_branches(self):
        self.assert_unlike_plain((7, (0, 0, 0, 1, 1, 2, 2)), (7, (0, 0, 0, 1, 1, 1, 2)))
        self.assert_unlike_plain((6, (0, 0, 1, 0, 3, 4)), (6, (0, 0, 1, 0, 3, 3)))

    def test_every_small_map_with_every_name(self):
        for one in every_small_one():
            for names in itertools.permutations(range(one[0])):
                self.assert_same_plain(one, with_names(one, names))

    def test_as_many_texts_as_there_are_unlike_maps(self):
        for many in range(1, 6):
            texts = {}
            for one in every_into_itself(many):
                texts.setdefault(plain(one), []).append(one)
            self.assertEqual(len(texts), HOW_MANY_SHAPES[many - 1])
            for alike in texts.values():
                least = {min(with_names(one, names) for names in itertools.permutations(range(many))) for one in alike}
                self.assertEqual(len(least), 1, repr(least))

    def test_maps_of_each_size_with_some_names(self):
        for one in some_of_each_size() + some_into_themselves(81):
            for names in some_names(one[0]):
                self.assert_same_plain(one, with_names(one, names))

    def test_one_long_tail_of_very_many_things(self):
        one = (400, (0,) + tuple(range(399)))
        self.assert_same_plain(one, (400, tuple(min(k + 1, 399) for k in range(400))))
        self.assert_unlike_plain(one, (400, (0, 0, 0) + tuple(range(2, 399))))

    def test_not_into_itself(self):
        for one in NOT_INTO_ITSELF:
            self.assert_refused(NoFit, plain, one)


class RenamingTest(SamplesTestCase):
    def assert_renames(self, one, other):
        told = renaming(one, other)
        self.assertIs(type(told), tuple, repr((one, other)))
        self.assertEqual(len(told), 1, repr((one, other)))
        names = (one[0], told[0])
        self.assert_map_of(names, one[0], one[0])
        self.assert_told(sorted(told[0]), list(range(one[0])))
        self.assert_told(put_together(names, other), put_together(one, names))
        self.assert_told(then(turned(names), names), itself(one[0]))

    def test_named_maps(self):
        self.assert_told(renaming((3, (0, 0, 1)), (3, (1, 2, 2))), ((2, 1, 0),))
        self.assert_told(renaming((4, (1, 2, 3, 3)), (4, (3, 1, 1, 2))), ((0, 3, 2, 1),))
        self.assertIsNone(renaming((3, (0, 0, 1)), (3, (0, 0, 0))))
        self.assertIsNone(renaming((4, (1, 0, 3, 2)), (4, (1, 2, 3, 0))))

    def test_one_thing(self):
        self.assert_told(renaming((1, (0,)), (1, (0,))), ((0,),))

    def test_which_of_the_two_the_names_are_put_ahead_of(self):
        one, other = (3, (1, 2, 2)), (3, (2, 0, 2))
        self.assert_told(renaming(one, other), ((1, 0, 2),))
        one, other = (4, (0, 0, 1, 2)), (4, (2, 1, 3, 1))
        self.assert_told(renaming(one, other), ((1, 3, 2, 0),))
        self.assert_told(renaming(other, one), ((3, 0, 2, 1),))

    def test_unlike_many_things(self):
        for many, other_many in itertools.permutations(SIZES, 2):
            self.assertIsNone(renaming(itself(many), itself(other_many)))
            self.assertIsNone(renaming((many, (0,) * many), (other_many, (0,) * other_many)))

    def test_every_pair_of_up_to_three_things(self):
        small = [one for many in range(1, 4) for one in every_into_itself(many)]
        for one, other in itertools.product(small, repeat=2):
            self.assertEqual(plain(one) == plain(other), bool(every_way_to_rename(one, other)))
            if every_way_to_rename(one, other):
                self.assert_renames(one, other)
            else:
                self.assertIsNone(renaming(one, other), repr((one, other)))

    def test_pairs_of_four_things(self):
        for one, other in itertools.product(every_into_itself(4)[::7], every_into_itself(4)):
            if every_way_to_rename(one, other):
                self.assert_renames(one, other)
            else:
                self.assertIsNone(renaming(one, other), repr((one, other)))

    def test_maps_of_each_size_with_some_names(self):
        for one in some_of_each_size() + some_into_themselves(81):
            for names in some_names(one[0]):
                self.assert_renames(one, with_names(one, names))
                self.assert_renames(with_names(one, names), one)

    def test_not_into_itself(self):
        for wrong in NOT_INTO_ITSELF:
            for right in ((1, (0,)), (9, (0,) * 9), (10, (0,) * 10)):
                self.assert_refused(NoFit, renaming, wrong, right)
                self.assert_refused(NoFit, renaming, right, wrong)
            self.assert_refused(NoFit, renaming, wrong, wrong)


class EveryShapeTest(SamplesTestCase):
    @classmethod
    def setUpClass(cls):
        cls.shapes = shapes_up_to(9)

    def test_as_many_as_there_are(self):
        self.assertEqual(tuple(len(shapes) for shapes in self.shapes), HOW_MANY_SHAPES)

    def test_each_with_other_names(self):
        for shapes in self.shapes:
            for one in shapes:
                for names in some_names(one[0])[1:]:
                    other = with_names(one, names)
                    self.assertEqual(plain(other), plain(one), repr((one, other)))
                    told = renaming(one, other)
                    self.assertEqual(with_names(one, told[0]), other)

    def test_none_is_another_with_other_names(self):
        for shapes in self.shapes[:5]:
            for one, other in itertools.permutations(shapes, 2):
                self.assertIsNone(renaming(one, other), repr((one, other)))

    def test_beat_of_each(self):
        for shapes in self.shapes[5:]:
            for one in shapes:
                rows, when, again = beat_gone_through(one)
                self.assert_told(beat(one), (when, again))


if __name__ == "__main__":
    unittest.main()
