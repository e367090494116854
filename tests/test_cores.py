import itertools
import unittest

from dunebooks.almanacs import behind
from dunebooks.cores import alike, core, is_core, parting, shows_parting
from samples import (BOUND, WORDS, Told, nested, otherwise, slow_behind, slow_core, slow_is_core, small_almanacs,
                     small_dunes, strange_things)

SMALL = small_almanacs(3, (0, 1, 2))
STEPS = range(1, 6)
# Falling slopes, words that take turns: its own core.
LONG = [(WORDS[at % 2], BOUND - at * 10 ** 8) for at in range(30)]


def ends_of(almanac):
    """What the almanac leads each small step to, done slowly."""
    return [slow_behind((0, step), almanac) for step in STEPS]


ENDS = [ends_of(almanac) for almanac in SMALL]


def first_parting(one, other):
    """The least of the small steps that two rows of ends part at; None of none."""
    return next((step for step, here, there in zip(STEPS, one, other) if here != there), None)


class Core(Told):
    def test_ordinary(self):
        self.told(core([("cut", 5), ("fill", 3), ("cut", 4), ("cut", 2)]), [("cut", 5), ("fill", 3), ("cut", 2)])
        self.told(core([("fill", 9), ("fill", 7), ("cut", 8), ("cut", 1)]), [("fill", 7), ("cut", 1)])

    def test_none_and_one(self):
        self.told(core([]), [])
        for wind in itertools.product(WORDS, (0, 1, BOUND)):
            self.told(core([wind]), [wind])

    def test_as_gentle_as_one_ahead(self):
        for one, other in itertools.product(WORDS, repeat=2):
            self.told(core([(one, 3), (other, 3)]), [(one, 3)])
            self.told(core([(one, 3), (other, 4)]), [(one, 3)])
            self.told(core([(one, 0), (other, 0), (other, 9)]), [(one, 0)])

    def test_as_gentle_as_one_ahead_that_is_itself_left_out(self):
        self.told(core([("cut", 3), ("cut", 2), ("fill", 3)]), [("cut", 2)])
        self.told(core([("cut", 3), ("fill", 5), ("fill", 4), ("fill", 3), ("fill", 2)]), [("cut", 3), ("fill", 2)])

    def test_neighbours_of_one_word(self):
        for word in WORDS:
            self.told(core([(word, 5), (word, 3), (word, 1)]), [(word, 1)])
        self.told(core([("cut", 5), ("cut", 4), ("fill", 3), ("fill", 2), ("cut", 1), ("cut", 0)]),
                  [("cut", 4), ("fill", 2), ("cut", 0)])

    def test_neighbours_only_when_one_between_is_left_out(self):
        self.told(core([("cut", 5), ("fill", 5), ("cut", 3)]), [("cut", 3)])
        self.told(core([("cut", 5), ("fill", 4), ("cut", 3)]), [("cut", 5), ("fill", 4), ("cut", 3)])

    def test_all_small_ones(self):
        for almanac in small_almanacs(4, (0, 1, 3)):
            self.told(core(almanac), slow_core(almanac))

    def test_does_what_the_almanac_does(self):
        dunes = small_dunes(3, (0, 2, 5)) + [(9, 0, 4, 4, -3, 7)]
        for almanac in SMALL:
            for dune in dunes:
                self.assertEqual(behind(dune, core(almanac)), slow_behind(dune, almanac))

    def test_bounds(self):
        self.told(core(LONG), LONG)
        self.told(core(LONG[::-1]), LONG[-1:])
        self.told(core([("cut", BOUND)] * 29 + [("fill", BOUND - 1)]), [("cut", BOUND), ("fill", BOUND - 1)])


class IsCore(unittest.TestCase):
    def test_all_small_almanacs(self):
        for almanac in small_almanacs(4, (0, 1, 3)):
            self.assertIs(is_core(almanac), slow_core(almanac) == almanac, almanac)

    def test_edges(self):
        self.assertIs(is_core([]), True)
        self.assertIs(is_core([("cut", 0)]), True)
        self.assertIs(is_core([("cut", 1), ("fill", 1)]), False)
        self.assertIs(is_core([("cut", 2), ("cut", 1)]), False)
        self.assertIs(is_core(LONG), True)

    def test_bounds_are_not_looked_at(self):
        long = [(WORDS[at % 2], 10 ** 40 - at) for at in range(300)]
        self.assertIs(is_core(long), True)
        self.assertIs(is_core(long + [("cut", 10 ** 40)]), False)

    def test_one_part_otherwise(self):
        seen = set()
        for thing in [[], [("cut", 1)], [("fill", 2), ("cut", 1)], [("cut", 3), ("fill", 1), ("cut", 0)]]:
            for other in otherwise(thing):
                self.assertIs(is_core(other), slow_is_core(other), other)
                seen.add(slow_is_core(other))
        self.assertEqual(seen, {True, False})

    def test_strange_things(self):
        for thing in strange_things() + [(), ("cut", 1), (("cut", 1),)]:
            self.assertIs(is_core(thing), False, thing)

    def test_nested(self):
        for deep in range(1, 11):
            for kinds in [(list,), (tuple,), (list, tuple)]:
                self.assertIs(is_core(nested([("cut", 1)], deep, kinds)), False)


class Alike(Told):
    def test_ordinary(self):
        self.told(alike([("cut", 3), ("cut", 2)], [("cut", 2), ("fill", 2)]), True)
        self.told(alike([("cut", 3), ("fill", 2)], [("fill", 2), ("cut", 3)]), False)
        self.told(alike([("cut", 3)], [("fill", 3)]), False)

    def test_edges(self):
        self.told(alike([], []), True)
        self.told(alike([], [("cut", BOUND)]), False)
        self.told(alike([("cut", 0)], [("cut", 0), ("fill", 7)]), True)
        self.told(alike([("cut", 5), ("fill", 3)], [("cut", 4), ("fill", 3)]), False)

    def test_just_where_no_small_step_parts_them(self):
        for one, here in zip(SMALL, ENDS):
            for other, there in zip(SMALL, ENDS):
                self.assertIs(alike(one, other), first_parting(here, there) is None)

    def test_alike_ones_do_the_same_to_many_dunes(self):
        dunes = small_dunes(3, (0, 1, 4)) + [(4, 0, 3, 1, 1, 5)]
        groups = {}
        for almanac in SMALL:
            groups.setdefault(str(core(almanac)), []).append(almanac)
        for first, *others in groups.values():
            for other in others:
                self.assertIs(alike(first, other), True)
                self.assertEqual([slow_behind(dune, first) for dune in dunes],
                                 [slow_behind(dune, other) for dune in dunes])

    def test_bounds(self):
        self.told(alike(LONG, list(LONG)), True)
        self.told(alike(LONG, LONG[:-1]), False)
        self.told(alike(LONG[1:], LONG[:1] + LONG[2:]), False)


class Parting(Told):
    def test_ordinary(self):
        self.told(parting([("cut", 3)], [("fill", 3)]), 4)
        self.told(parting([("cut", 3), ("fill", 2)], [("fill", 2)]), 4)
        self.told(parting([("cut", 5)], [("cut", 3)]), 4)

    def test_edges(self):
        self.told(parting([], []), None)
        self.told(parting([], [("cut", 0)]), 1)
        self.told(parting([("fill", 0)], [("cut", 0)]), 1)
        self.told(parting([], [("cut", BOUND)]), BOUND + 1)
        self.told(parting([("cut", 2)], [("cut", 2), ("fill", 2)]), None)

    def test_only_steep_steps_part_them(self):
        self.told(parting([("cut", 9), ("fill", 4), ("cut", 1)], [("fill", 4), ("cut", 1)]), 10)
        self.told(parting([("cut", 9), ("fill", 4), ("cut", 1)], [("cut", 8), ("fill", 4), ("cut", 1)]), 9)

    def test_the_least_of_all_small_steps(self):
        for one, here in zip(SMALL, ENDS):
            for other, there in zip(SMALL, ENDS):
                self.told(parting(one, other), first_parting(here, there))

    def test_bounds(self):
        self.told(parting(LONG, LONG), None)
        self.told(parting(LONG, LONG[1:]), BOUND + 1)
        self.told(parting(LONG, LONG[:-1]), LONG[-1][1] + 1)
        for at in range(30):
            step = parting(LONG, LONG[:at] + LONG[at + 1:])
            self.assertNotEqual(slow_behind((0, step), LONG), slow_behind((0, step), LONG[:at] + LONG[at + 1:]))
            self.assertEqual(slow_behind((0, step - 1), LONG), slow_behind((0, step - 1), LONG[:at] + LONG[at + 1:]))


class ShowsParting(unittest.TestCase):
    def test_ordinary(self):
        one, other = [("cut", 3)], [("fill", 3)]
        self.assertEqual([shows_parting(one, other, step) for step in range(1, 7)], [False] * 3 + [True] * 3)

    def test_least_or_not(self):
        one, other = [("cut", 9), ("fill", 4)], [("cut", 7), ("fill", 4)]
        self.assertEqual([step for step in range(-3, 12) if shows_parting(one, other, step)], [8, 9, 10, 11])
        one, other = [("cut", 2)], [("cut", 4), ("cut", 2)]
        self.assertEqual([step for step in range(-3, 12) if shows_parting(one, other, step)], [])

    def test_a_step_beyond_one_that_parts_them_may_not(self):
        one, other = [("cut", 5), ("fill", 4), ("cut", 3)], [("cut", 4), ("fill", 3)]
        self.assertEqual([step for step in range(-3, 12) if shows_parting(one, other, step)], [4])
        self.assertEqual(parting(one, other), 4)

    def test_all_small_steps(self):
        for one, here in zip(SMALL, ENDS):
            for other, there in zip(SMALL[::3], ENDS[::3]):
                for at, step in enumerate(STEPS):
                    self.assertIs(shows_parting(one, other, step), here[at] != there[at])

    def test_parting_is_shown_and_none_below_it(self):
        for one, other in itertools.product(SMALL[::5], repeat=2):
            step = parting(one, other)
            self.assertIs(shows_parting(one, other, step), step is not None)
            if step is not None:
                self.assertIs(shows_parting(one, other, step - 1), False)

    def test_below_1(self):
        # A step down parts them as well, but it is none of these.
        for step in (0, -1, -9, -10 ** 30):
            self.assertIs(shows_parting([("cut", 0)], [("fill", 0)], step), False)

    def test_true_is_no_number(self):
        self.assertIs(shows_parting([("cut", 0)], [("fill", 0)], 1), True)
        self.assertIs(shows_parting([("cut", 0)], [("fill", 0)], True), False)
        self.assertIs(shows_parting([("cut", 0)], [("fill", 0)], False), False)

    def test_strange_things(self):
        for thing in strange_things() + otherwise(1) + otherwise([1]) + otherwise((("cut", 1),)):
            wanted = type(thing) is int and thing >= 1
            self.assertIs(shows_parting([("cut", 0)], [("fill", 0)], thing), wanted, thing)
            self.assertIs(shows_parting([("cut", 0)], [("cut", 0), ("fill", 2)], thing), False, thing)

    def test_bounds_are_not_looked_at(self):
        self.assertIs(shows_parting(LONG, LONG[1:], BOUND + 1), True)
        self.assertIs(shows_parting(LONG, LONG[1:], BOUND), False)
        self.assertIs(shows_parting(LONG * 10, LONG[1:] * 10, 10 ** 5000), True)
        self.assertIs(shows_parting(LONG, LONG, 10 ** 5000), False)


if __name__ == "__main__":
    unittest.main()
