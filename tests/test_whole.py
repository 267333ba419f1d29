"""[0.1] to [0.4] and the interface, over the whole program."""

import collections
import copy
import importlib
import inspect
import itertools
import unittest

from mapweave.counting import all_maps, count, count_still
from mapweave.dividing import before, behind
from mapweave.errors import NoFit, NoText, NoTurn
from mapweave.maps import is_map
from mapweave.meeting import agreed, alike_made, joined, met, paired, stacked
from mapweave.reading import read
from mapweave.rings import beat, often, plain, renaming, ring, tail
from mapweave.weaving import comes_to_all, parts_all, same, split, then, turned
from mapweave.writing import written
from samples import (
    SamplesTestCase,
    every_into_itself,
    every_map,
    some_into_themselves,
    some_maps,
    some_names,
    with_names,
)

INTERFACE = (
    ("maps", "is_map", ["thing"]),
    ("writing", "written", ["one"]),
    ("reading", "read", ["text"]),
    ("weaving", "then", ["one", "other"]),
    ("weaving", "same", ["many"]),
    ("weaving", "split", ["one"]),
    ("weaving", "turned", ["one"]),
    ("weaving", "parts_all", ["one"]),
    ("weaving", "comes_to_all", ["one"]),
    ("dividing", "before", ["one", "other"]),
    ("dividing", "behind", ["one", "other"]),
    ("meeting", "met", ["one", "other"]),
    ("meeting", "agreed", ["one", "other"]),
    ("meeting", "joined", ["one", "other"]),
    ("meeting", "alike_made", ["one", "other"]),
    ("meeting", "paired", ["first", "second"]),
    ("meeting", "stacked", ["first", "second"]),
    ("rings", "often", ["one", "times"]),
    ("rings", "ring", ["one", "k"]),
    ("rings", "tail", ["one", "k"]),
    ("rings", "beat", ["one"]),
    ("rings", "plain", ["one"]),
    ("rings", "renaming", ["one", "other"]),
    ("counting", "all_maps", ["many", "to"]),
    ("counting", "count", ["many", "to", "kind"]),
    ("counting", "count_still", ["many"]),
)

# Of each function some calls, and what is told, or refused.
CALLS = (
    (is_map, ((3, (0, 2, 2)),), True),
    (is_map, ((3, [0, 2, 2]),), False),
    (is_map, ([3, [0, [2, 2]]],), False),
    (written, ((3, (0, 2, 2)),), "3: 0 2 2"),
    (read, ("3: 0 2 2",), (3, (0, 2, 2))),
    (read, ("3: 0 3",), NoText),
    (then, ((3, (0, 2, 2)), (4, (3, 1, 0))), (4, (3, 0, 0))),
    (then, ((3, (0, 2, 2)), (4, (3, 1))), NoFit),
    (same, (3,), (3, (0, 1, 2))),
    (split, ((5, (4, 1, 4)),), ((2, (1, 0, 1)), (5, (1, 4)))),
    (turned, ((3, (1, 2, 0)),), (3, (2, 0, 1))),
    (turned, ((3, (1, 2, 1)),), NoTurn),
    (parts_all, ((3, (0, 2, 2)),), False),
    (parts_all, ((3, (0, 2)),), True),
    (comes_to_all, ((3, (0, 2, 2)),), False),
    (comes_to_all, ((3, (0, 2, 1, 1)),), True),
    (before, ((3, (0, 2, 2)), (3, (2, 0))), ("map", (2, (1, 0, 0)))),
    (before, ((3, (0, 1, 2)), (3, (2, 0))), ("thing", 1)),
    (before, ((3, (0, 1, 2)), (2, (1, 0))), NoFit),
    (behind, ((3, (0, 2, 2)), (2, (1, 0, 0))), ("map", (3, (2, 0)))),
    (behind, ((3, (0, 1, 2)), (2, (0, 1, 0))), ("things", 0, 2)),
    (behind, ((0, ()), (2, ())), ("nowhere",)),
    (behind, ((0, ()), (2, (1,))), NoFit),
    (met, ((3, (0, 2, 2)), (3, (2, 0))), ((3, (0, 1, 2)), (2, (1, 0, 0)))),
    (met, ((3, (0, 2, 2)), (4, (2, 0))), NoFit),
    (agreed, ((3, (0, 2, 2)), (3, (0, 1, 2))), (3, (0, 2))),
    (agreed, ((3, (0, 2, 2)), (4, (0, 1, 2))), NoFit),
    (joined, ((3, (0, 2, 2)), (2, (1, 0, 1))), ((2, (0, 1, 0)), (2, (0, 0)))),
    (joined, ((3, (0, 2, 2)), (2, (1, 0))), NoFit),
    (alike_made, ((4, (0, 1)), (4, (1, 2))), (2, (0, 0, 0, 1))),
    (alike_made, ((4, (0, 1)), (3, (1, 2))), NoFit),
    (paired, ((3, (0, 2)), (2, (1, 1))), (6, (1, 5))),
    (paired, ((3, (0, 2)), (2, (1,))), NoFit),
    (stacked, ((3, (0, 2)), (3, (1, 0, 1))), (3, (0, 2, 1, 0, 1))),
    (stacked, ((3, (0, 2)), (2, (1, 0, 1))), NoFit),
    (often, ((3, (1, 2, 0)), 10 ** 30), (3, (1, 2, 0))),
    (often, ((3, (1, 2)), 0), NoFit),
    (ring, ((4, (3, 1, 0, 2)), 3), (0, 3, 2)),
    (ring, ((0, ()), 0), NoFit),
    (tail, ((3, (0, 0, 1)), 2), 2),
    (tail, ((2, (0, 0, 1)), 2), NoFit),
    (beat, ((4, (1, 0, 0, 2)),), (2, 2)),
    (beat, ((0, ()),), NoFit),
    (plain, ((0, ()),), NoFit),
    (renaming, ((3, (0, 0, 1)), (3, (1, 2, 2))), ((2, 1, 0),)),
    (renaming, ((3, (0, 0, 1)), (3, (0, 0, 0))), None),
    (renaming, ((3, (0, 0, 1)), (3, (0, 0))), NoFit),
    (all_maps, (1, 2), ((2, (0,)), (2, (1,)))),
    (count, (3, 2, "any"), 8),
    (count, (2, 3, "parts"), 6),
    (count, (3, 2, "all"), 6),
    (count_still, (3,), 10),
)

TWENTY = tuple(range(20))
ROUND = TWENTY[1:] + (0,)

# The same, of maps that are longer, or whose to is greater, than those that is_map tells.
GREATER_CALLS = (
    (then, ((20, ROUND), (20, ROUND)), (20, TWENTY[2:] + (0, 1))),
    (same, (20,), (20, TWENTY)),
    (split, ((30, (25,) * 12),), ((1, (0,) * 12), (30, (25,)))),
    (turned, ((20, ROUND),), (20, (19,) + TWENTY[:19])),
    (turned, ((20, (0,) * 20),), NoTurn),
    (parts_all, ((20, ROUND),), True),
    (comes_to_all, ((21, ROUND),), False),
    (before, ((20, ROUND), (20, ROUND)), ("map", (20, TWENTY))),
    (before, ((20, ROUND), (20, TWENTY[:19])), ("thing", 18)),
    (behind, ((20, ROUND), (20, ROUND)), ("map", (20, TWENTY))),
    (behind, ((20, ROUND), (19, TWENTY[:19] + (0,))), ("things", 0, 19)),
    (behind, ((0, ()), (20, ())), ("nowhere",)),
    (met, ((20, ROUND), (20, TWENTY)), ((20, TWENTY), (20, ROUND))),
    (agreed, ((20, ROUND), (20, TWENTY)), (20, ())),
    (joined, ((20, ROUND), (20, TWENTY)), ((20, TWENTY), (20, ROUND))),
    (alike_made, ((20, ROUND), (20, TWENTY)), (1, (0,) * 20)),
    (paired, ((20, (19,)), (30, (29,))), (600, (599,))),
    (stacked, ((20, ROUND), (20, TWENTY)), (20, ROUND + TWENTY)),
    (often, ((20, ROUND), 10 ** 30), (20, TWENTY)),
    (ring, ((20, ROUND), 11), TWENTY),
    (tail, ((20, (0,) + TWENTY[:19]), 19), 19),
    (beat, ((20, ROUND),), (0, 20)),
    (renaming, ((20, (0,) + TWENTY[:19]), (20, TWENTY[1:] + (19,))), (TWENTY[::-1],)),
    (renaming, ((20, ROUND), (20, TWENTY)), None),
)

EACH_SIZE = tuple(range(10))


def holds_only_plain_things(thing):
    if type(thing) is tuple:
        return all(holds_only_plain_things(part) for part in thing)
    return thing is None or type(thing) in (int, str, bool)


def onto_maps(many, to):
    return [one for one in some_maps(many, to) if set(one[1]) == set(range(to))]


def rising_maps(many, to):
    rows = [tuple(range(many)), tuple(range(to - many, to)), tuple(range(to))[::2][:many]]
    return [(to, row) for row in rows if many <= to and len(row) == many]


class InterfaceTest(unittest.TestCase):
    def test_names_and_arguments(self):
        for module, name, arguments in INTERFACE:
            with self.subTest(module=module, name=name):
                function = getattr(importlib.import_module("mapweave." + module), name)
                self.assertEqual(function.__module__, "mapweave." + module)
                self.assertEqual(list(inspect.signature(function).parameters), arguments)


class CallsTest(SamplesTestCase):
    def assert_answered(self, function, handed_in, expected):
        if expected in (NoText, NoFit, NoTurn):
            self.assert_refused(expected, function, *handed_in)
        else:
            self.assert_told(function(*handed_in), expected)

    def test_each_function_is_called(self):
        called = {function.__name__ for function, handed_in, expected in CALLS}
        self.assertEqual(called, {name for module, name, arguments in INTERFACE})

    def test_what_is_told(self):
        for function, handed_in, expected in CALLS + GREATER_CALLS:
            with self.subTest(function=function.__name__, handed_in=handed_in):
                self.assert_answered(function, handed_in, expected)

    def test_asked_by_the_names_of_the_interface(self):
        arguments_of = {name: arguments for module, name, arguments in INTERFACE}
        for function, handed_in, expected in CALLS:
            with self.subTest(function=function.__name__, handed_in=handed_in):
                named = dict(zip(arguments_of[function.__name__], handed_in))
                self.assert_answered(lambda: function(**named), (), expected)

    def test_asked_again_and_nothing_is_changed(self):
        for function, handed_in, expected in CALLS + GREATER_CALLS:
            with self.subTest(function=function.__name__, handed_in=handed_in):
                before_it = copy.deepcopy(handed_in)
                for _ in range(3):
                    self.assert_answered(function, handed_in, expected)
                    self.assert_told(handed_in, before_it)

    def test_asked_again_behind_all_others(self):
        for function, handed_in, expected in CALLS + GREATER_CALLS + CALLS[::-1]:
            self.assert_answered(function, handed_in, expected)

    def test_lists_stand_nowhere(self):
        for function, handed_in, expected in CALLS + GREATER_CALLS:
            if expected not in (NoText, NoFit, NoTurn):
                told = function(*handed_in)
                self.assertTrue(holds_only_plain_things(told), repr((function.__name__, told)))


class TogetherTest(SamplesTestCase):
    """[0.2] (a)"""

    def test_every_order_of_brackets(self):
        for sizes in itertools.product((0, 1, 3, 6, 9), repeat=4):
            maps = [some_maps(sizes[k], sizes[k + 1])[::2] for k in range(3)]
            for one, other, third in itertools.product(*maps):
                self.assert_told(then(then(one, other), third), then(one, then(other, third)))

    def test_each_falls_into_two(self):
        for many, to in itertools.product(EACH_SIZE, repeat=2):
            for one in some_maps(many, to):
                first, second = split(one)
                self.assertIs(comes_to_all(first), True, repr(one))
                self.assertIs(parts_all(second), True, repr(one))
                self.assert_told(then(first, second), one)

    def test_in_one_way(self):
        for many, between, to in itertools.product(EACH_SIZE, repeat=3):
            for first, second in itertools.product(onto_maps(many, between), rising_maps(between, to)):
                self.assert_told(split(then(first, second)), (first, second))


class ThroughTest(SamplesTestCase):
    """[0.2] (b)"""

    def test_before(self):
        for many, other_many, to in itertools.product(EACH_SIZE, repeat=3):
            for one, other in itertools.product(some_maps(many, to)[::2], some_maps(other_many, to)[::2]):
                told = before(one, other)
                if told[0] == "map":
                    self.assert_told(then(told[1], other), one)
                else:
                    self.assertEqual(told[0], "thing")
                    self.assertNotIn(one[1][told[1]], other[1])

    def test_behind(self):
        for many, to, other_to in itertools.product(EACH_SIZE, repeat=3):
            for one, other in itertools.product(some_maps(many, to)[::2], some_maps(many, other_to)[::2]):
                told = behind(one, other)
                if told[0] == "map":
                    self.assert_told(then(other, told[1]), one)
                elif told[0] == "things":
                    self.assertEqual(other[1][told[1]], other[1][told[2]])
                    self.assertNotEqual(one[1][told[1]], one[1][told[2]])
                else:
                    self.assert_told((told, one, other), (("nowhere",), (0, ()), (other_to, ())))
                    self.assertGreater(other_to, 0)


class JustOneMapTest(SamplesTestCase):
    """[0.2] (c), all gone through: what goes through what is told is just what fits, and each by one map."""

    def assert_each_once(self, through, fitting):
        self.assertEqual(collections.Counter(through), collections.Counter(fitting))
        self.assertEqual(len(set(fitting)), len(fitting))

    def test_met(self):
        for many, other_many, to in itertools.product(range(4), range(3), range(4)):
            for one, other in itertools.product(every_map(many, to), every_map(other_many, to)):
                first, second = met(one, other)
                for size in range(3):
                    ways = every_map(size, len(first[1]))
                    pairs = itertools.product(every_map(size, many), every_map(size, other_many))
                    self.assert_each_once(
                        [(then(way, first), then(way, second)) for way in ways],
                        [pair for pair in pairs if then(pair[0], one) == then(pair[1], other)],
                    )

    def test_agreed(self):
        for many, to, size in itertools.product(range(4), range(4), range(3)):
            for one, other in itertools.product(every_map(many, to), repeat=2):
                told = agreed(one, other)
                self.assert_each_once(
                    [then(way, told) for way in every_map(size, len(told[1]))],
                    [way for way in every_map(size, many) if then(way, one) == then(way, other)],
                )

    def test_joined(self):
        for many, to, other_to in itertools.product(range(4), range(4), range(3)):
            for one, other in itertools.product(every_map(many, to), every_map(many, other_to)):
                first, second = joined(one, other)
                for size in range(3):
                    ways = every_map(first[0], size)
                    pairs = itertools.product(every_map(to, size), every_map(other_to, size))
                    self.assert_each_once(
                        [(then(first, way), then(second, way)) for way in ways],
                        [pair for pair in pairs if then(one, pair[0]) == then(other, pair[1])],
                    )

    def test_alike_made(self):
        for many, to, size in itertools.product(range(4), range(4), range(4)):
            for one, other in itertools.product(every_map(many, to), repeat=2):
                told = alike_made(one, other)
                self.assert_each_once(
                    [then(told, way) for way in every_map(told[0], size)],
                    [way for way in every_map(to, size) if then(one, way) == then(other, way)],
                )


def partners_of(way, one, other):
    """The map that, put ahead of other, is way put ahead of one: by the last thing of other each time, if it has one."""
    row = []
    for thing in then(way, one)[1]:
        places = [l for l in range(len(other[1])) if other[1][l] == thing]
        if not places:
            return None
        row.append(places[-1])
    return (len(other[1]), tuple(row))


def spread(many, links):
    """For each of many things the greatest to which links lead in however many steps."""
    greatest = list(range(many))
    for _ in range(many):
        for k, l in links:
            greatest[k] = greatest[l] = max(greatest[k], greatest[l])
    return tuple(greatest)


class OfEachSizeTest(SamplesTestCase):
    """[0.2] (c), of maps of each size: by the program's own before and behind, which find the one map."""

    def test_met(self):
        for many, other_many, to in itertools.product(EACH_SIZE, repeat=3):
            for one, other in itertools.product(some_maps(many, to)[::2], some_maps(other_many, to)[1::2]):
                first, second = met(one, other)
                self.assert_told(then(first, one), then(second, other))
                both = paired(first, second)
                self.assertIs(parts_all(both), True)
                for way in some_maps(4, many):
                    partner = partners_of(way, one, other)
                    if partner is not None:
                        through = before(paired(way, partner), both)
                        self.assertEqual(through[0], "map", repr((one, other)))
                        self.assert_told(then(through[1], first), way)
                        self.assert_told(then(through[1], second), partner)

    def test_agreed(self):
        for many, to in itertools.product(EACH_SIZE, repeat=2):
            for one, other in itertools.product(some_maps(many, to), repeat=2):
                told = agreed(one, other)
                self.assert_told(then(told, one), then(told, other))
                self.assertIs(parts_all(told), True)
                for k in range(many):
                    fits = one[1][k] == other[1][k]
                    self.assertEqual(before((many, (k,)), told)[0] == "map", fits, repr((one, other)))

    def test_joined(self):
        for many, to, other_to in itertools.product(EACH_SIZE, repeat=3):
            for one, other in itertools.product(some_maps(many, to)[::2], some_maps(many, other_to)[1::2]):
                first, second = joined(one, other)
                self.assert_told(then(one, first), then(other, second))
                both = stacked(first, second)
                self.assertIs(comes_to_all(both), True)
                greatest = spread(to + other_to, [(thing, to + other[1][k]) for k, thing in enumerate(one[1])])
                fitting = (to + other_to, greatest)
                through = behind(fitting, both)
                self.assertEqual(through[0], "map", repr((one, other)))
                self.assert_told(then(both, through[1]), fitting)
                self.assertIs(parts_all(through[1]), True)

    def test_alike_made(self):
        for many, to in itertools.product(EACH_SIZE, repeat=2):
            for one, other in itertools.product(some_maps(many, to), repeat=2):
                told = alike_made(one, other)
                self.assert_told(then(one, told), then(other, told))
                self.assertIs(comes_to_all(told), True)
                fitting = (to, spread(to, list(zip(one[1], other[1]))))
                through = behind(fitting, told)
                self.assertEqual(through[0], "map", repr((one, other)))
                self.assert_told(then(told, through[1]), fitting)
                self.assertIs(parts_all(through[1]), True)


class ComesRoundTest(SamplesTestCase):
    """[0.2] (d)"""

    def test_from_when_on_and_behind_how_many_times(self):
        for many in EACH_SIZE[1:]:
            for one in some_into_themselves(many):
                when, again = beat(one)
                told = [often(one, times) for times in range(when + again)]
                self.assertEqual(len(set(told)), when + again, repr(one))
                self.assert_told(often(one, when + again), told[when])
                self.assert_told(often(one, when + 10 ** 29 * again), told[when])
                self.assertEqual(when, max(tail(one, k) for k in range(many)))

    def test_a_ring_comes_round(self):
        for many in EACH_SIZE[1:]:
            for one in some_into_themselves(many):
                for k in range(many):
                    things = ring(one, k)
                    self.assertIn(often(one, tail(one, k))[1][k], things)
                    self.assertEqual(beat(one)[1] % len(things), 0)
                    for thing in things:
                        self.assertEqual(often(one, len(things))[1][thing], thing)

    def test_names_are_told_or_plain_forms_are_unlike(self):
        for many, other_many in itertools.product(EACH_SIZE[1:], repeat=2):
            for one, other in itertools.product(some_into_themselves(many), some_into_themselves(other_many)):
                told = renaming(one, other)
                self.assertEqual(told is None, plain(one) != plain(other), repr((one, other)))
                if told is not None:
                    names = (many, told[0])
                    self.assert_told(then(names, other), then(one, names))
                    self.assert_told(then(names, turned(names)), same(many))

    def test_with_other_names(self):
        for many in EACH_SIZE[1:]:
            for one, names in itertools.product(some_into_themselves(many), some_names(many)):
                self.assertIsNotNone(renaming(one, with_names(one, names)), repr((one, names)))


class CountsTest(SamplesTestCase):
    """[0.2] (e)"""

    def test_counts_are_those_of_all_maps_gone_through(self):
        for many, to in itertools.product(range(5), repeat=2):
            maps = all_maps(many, to)
            self.assert_told(maps, tuple(every_map(many, to)))
            self.assert_told(count(many, to, "any"), len(maps))
            self.assert_told(count(many, to, "parts"), len([one for one in maps if parts_all(one)]))
            self.assert_told(count(many, to, "all"), len([one for one in maps if comes_to_all(one)]))

    def test_still_maps(self):
        for many in range(1, 6):
            still = [one for one in every_into_itself(many) if often(one, 2) == one]
            self.assert_told(count_still(many), len(still))


if __name__ == "__main__":
    unittest.main()
