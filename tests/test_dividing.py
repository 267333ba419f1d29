"""[0.2] (b), [3.1] and [3.2]: whether a map goes through another one."""

import itertools
import unittest

from mapweave.dividing import before, behind
from mapweave.errors import NoFit
from mapweave.weaving import then
from samples import SamplesTestCase, every_map, every_map_up_to, put_together, some_maps

SIZES = (0, 1, 4, 8, 9, 12)


class DividingTestCase(SamplesTestCase):
    def assert_is_thing(self, thing, one):
        self.assertIs(type(thing), int)
        self.assertTrue(0 <= thing < len(one[1]), repr(thing))


class BeforeTestCase(DividingTestCase):
    def assert_through(self, told, one, other):
        self.assertIs(type(told), tuple, repr(told))
        self.assertEqual(len(told), 2, repr(told))
        self.assertEqual(told[0], "map", repr((one, other, told)))
        self.assert_map_of(told[1], len(one[1]), len(other[1]))
        self.assert_told(put_together(told[1], other), one)

    def assert_not_through(self, told, one, other):
        self.assertIs(type(told), tuple, repr(told))
        self.assertEqual(len(told), 2, repr(told))
        self.assertEqual(told[0], "thing", repr((one, other, told)))
        self.assert_is_thing(told[1], one)
        self.assertNotIn(one[1][told[1]], other[1])

    def assert_answered(self, one, other):
        if all(thing in other[1] for thing in one[1]):
            self.assert_through(before(one, other), one, other)
        else:
            self.assert_not_through(before(one, other), one, other)


class BeforeTest(BeforeTestCase):
    def test_named_maps(self):
        self.assert_told(before((3, (2, 0)), (3, (0, 1, 2))), ("map", (3, (2, 0))))
        self.assert_told(before((3, (0, 2, 2)), (3, (2, 0))), ("map", (2, (1, 0, 0))))
        self.assert_told(before((3, (0, 1, 2)), (3, (2, 0))), ("thing", 1))
        self.assert_told(before((5, (4, 4, 3)), (5, (4,))), ("thing", 2))

    def test_one_has_no_things(self):
        for to, many in itertools.product(SIZES, repeat=2):
            for other in some_maps(many, to):
                self.assert_told(before((to, ()), other), ("map", (many, ())))

    def test_other_has_no_things(self):
        self.assert_told(before((0, ()), (0, ())), ("map", (0, ())))
        self.assert_told(before((4, ()), (4, ())), ("map", (0, ())))
        self.assert_told(before((1, (0,)), (1, ())), ("thing", 0))
        self.assert_not_through(before((4, (3, 3, 1)), (4, ())), (4, (3, 3, 1)), (4, ()))

    def test_only_the_last_thing_shows_it(self):
        for many in (1, 2, 9, 12):
            self.assert_told(before((2, (0,) * (many - 1) + (1,)), (2, (0, 0))), ("thing", many - 1))

    def test_maps_put_together_go_through(self):
        for sizes in itertools.product(SIZES, repeat=3):
            for first, other in itertools.product(some_maps(*sizes[:2]), some_maps(*sizes[1:])):
                one = put_together(first, other)
                self.assert_through(before(one, other), one, other)

    def test_maps_of_every_size(self):
        for many, other_many, to in itertools.product(SIZES, repeat=3):
            for one, other in itertools.product(some_maps(many, to), some_maps(other_many, to)):
                self.assert_answered(one, other)

    def test_greater_maps(self):
        for many, other_many, to in itertools.product((9, 20, 81), repeat=3):
            for one, other in itertools.product(some_maps(many, to), some_maps(other_many, to)):
                self.assert_answered(one, other)

    def test_never_both(self):
        for one, other in itertools.product(every_map_up_to(3, 3), repeat=2):
            if one[0] == other[0]:
                ways = [way for way in every_map(len(one[1]), len(other[1])) if then(way, other) == one]
                told = before(one, other)
                self.assert_answered(one, other)
                self.assertEqual(told[0], "map" if ways else "thing", repr((one, other)))
                self.assertTrue(told[0] == "thing" or told[1] in ways, repr((one, other)))

    def test_to_unlike(self):
        for one, other in itertools.product(every_map_up_to(2, 3), repeat=2):
            if one[0] != other[0]:
                self.assert_refused(NoFit, before, one, other)
        self.assert_refused(NoFit, before, (9, (0,)), (10, (0,)))
        self.assert_refused(NoFit, before, (0, ()), (1, ()))
        self.assert_refused(NoFit, before, (81, (0, 1)), (80, (0, 1)))

    def test_asked_again(self):
        for one, other in (((3, (0, 2, 2)), (3, (2, 0, 2))), ((3, (0, 1, 2)), (3, (2, 2)))):
            shown = repr((one, other))
            first = before(one, other)
            self.assertEqual(repr((one, other)), shown)
            self.assert_told(before(one, other), first)


class BehindTestCase(DividingTestCase):
    def assert_through(self, told, one, other):
        self.assertIs(type(told), tuple, repr(told))
        self.assertEqual(len(told), 2, repr(told))
        self.assertEqual(told[0], "map", repr((one, other, told)))
        self.assert_map_of(told[1], other[0], one[0])
        self.assert_told(put_together(other, told[1]), one)

    def assert_not_through(self, told, one, other):
        self.assertIs(type(told), tuple, repr(told))
        self.assertEqual(len(told), 3, repr(told))
        self.assertEqual(told[0], "things", repr((one, other, told)))
        early, late = told[1:]
        self.assert_is_thing(early, one)
        self.assert_is_thing(late, one)
        self.assertLess(early, late)
        self.assertEqual(other[1][early], other[1][late])
        self.assertNotEqual(one[1][early], one[1][late])

    def assert_answered(self, one, other):
        pairs = list(zip(other[1], one[1]))
        if len(set(pairs)) > len(set(other[1])):
            self.assert_not_through(behind(one, other), one, other)
        elif one[0] == 0 and other[0] > 0:
            self.assert_told(behind(one, other), ("nowhere",))
        else:
            self.assert_through(behind(one, other), one, other)


class BehindTest(BehindTestCase):
    def test_named_maps(self):
        self.assert_told(behind((3, (2, 0)), (2, (0, 1))), ("map", (3, (2, 0))))
        self.assert_told(behind((3, (0, 2, 2)), (2, (1, 0, 0))), ("map", (3, (2, 0))))
        self.assert_told(behind((3, (0, 1, 2)), (2, (0, 1, 0))), ("things", 0, 2))
        self.assert_told(behind((2, (1, 1, 0)), (4, (2, 3, 3))), ("things", 1, 2))

    def test_the_map_leads_to_as_many_things_as_one(self):
        self.assert_told(behind((9, (1,)), (1, (0,))), ("map", (9, (1,))))
        self.assert_told(behind((9, ()), (0, ())), ("map", (9, ())))

    def test_other_has_things_that_nothing_is_led_to(self):
        for one, other in (((3, (2, 0)), (5, (4, 1))), ((1, ()), (1, ())), ((9, ()), (4, ())), ((1, (0,)), (9, (8,)))):
            self.assert_through(behind(one, other), one, other)

    def test_nowhere(self):
        for to in (1, 2, 3, 9, 10, 81):
            self.assert_told(behind((0, ()), (to, ())), ("nowhere",))

    def test_not_nowhere(self):
        self.assert_told(behind((0, ()), (0, ())), ("map", (0, ())))
        self.assert_told(behind((1, ()), (0, ())), ("map", (1, ())))
        self.assert_told(behind((1, ()), (2, ())), ("map", (1, (0, 0))))

    def test_only_the_last_thing_shows_it(self):
        for many in (2, 3, 9, 12):
            one = (2, (0,) * (many - 1) + (1,))
            self.assert_not_through(behind(one, (1, (0,) * many)), one, (1, (0,) * many))

    def test_two_things_in_the_middle_show_it(self):
        self.assert_told(behind((5, (0, 1, 2, 3, 4)), (4, (0, 3, 2, 3, 1))), ("things", 1, 3))

    def test_maps_put_together_go_through(self):
        for sizes in itertools.product(SIZES, repeat=3):
            for other, second in itertools.product(some_maps(*sizes[:2]), some_maps(*sizes[1:])):
                one = put_together(other, second)
                self.assert_through(behind(one, other), one, other)

    def test_maps_of_every_size(self):
        for many, to, other_to in itertools.product(SIZES, repeat=3):
            for one, other in itertools.product(some_maps(many, to), some_maps(many, other_to)):
                self.assert_answered(one, other)

    def test_greater_maps(self):
        for many, to, other_to in itertools.product((9, 20, 81), repeat=3):
            for one, other in itertools.product(some_maps(many, to), some_maps(many, other_to)):
                self.assert_answered(one, other)

    def test_never_both(self):
        for one, other in itertools.product(every_map_up_to(3, 3), repeat=2):
            if len(one[1]) == len(other[1]):
                ways = [way for way in every_map(other[0], one[0]) if then(other, way) == one]
                told = behind(one, other)
                self.assert_answered(one, other)
                self.assertEqual(told[0] == "map", bool(ways), repr((one, other)))
                self.assertTrue(told[0] != "map" or told[1] in ways, repr((one, other)))

    def test_not_of_as_many_things(self):
        for one, other in itertools.product(every_map_up_to(3, 2), repeat=2):
            if len(one[1]) != len(other[1]):
                self.assert_refused(NoFit, behind, one, other)
        self.assert_refused(NoFit, behind, (0, ()), (1, (0,)))
        self.assert_refused(NoFit, behind, (1, (0,)), (1, ()))
        self.assert_refused(NoFit, behind, (1, (0,) * 9), (1, (0,) * 10))
        self.assert_refused(NoFit, behind, (1, (0,) * 81), (1, (0,) * 80))

    def test_asked_again(self):
        for one, other in (((3, (0, 2, 2)), (3, (1, 0, 0))), ((3, (0, 1, 2)), (3, (2, 2, 1))), ((0, ()), (2, ()))):
            shown = repr((one, other))
            first = behind(one, other)
            self.assertEqual(repr((one, other)), shown)
            self.assert_told(behind(one, other), first)


if __name__ == "__main__":
    unittest.main()
