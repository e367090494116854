import itertools
import unittest

from dunebooks.beside import felt, is_below, width, widest, widths
from dunebooks.errors import NoPost, Unlike
from samples import BOUND, WORDS, shape, slow_behind, small_almanacs, small_dunes

PAIRS = [pair for many in (1, 2, 3) for pair in itertools.product(itertools.product((0, 1, 4), repeat=many), repeat=2)]
PAIRS += [((0, 9, -3, 4), (5, 9, 2, -7)), ((3, 3, 3, 3, 3), (9, 0, 0, 0, 2))]
ALMANACS = small_almanacs(2, (0, 1, 3)) + [[("cut", 3), ("fill", 2), ("cut", 1)], [("fill", 4), ("fill", 2)] * 2]
UNLIKE = [((1,), (1, 1)), ((1, 1), (1,)), ((0, 5, 1), (0, 5)), ((0,) * 40, (0,) * 39), ((0,), (0,) * 40)]
WIDE = (-BOUND, BOUND) * 20


def gaps(one, other):
    return [abs(here - there) for here, there in zip(one, other)]


class Told(unittest.TestCase):
    def told(self, told, wanted):
        self.assertEqual(shape(told), shape(wanted))

    def unlike(self, function, *handed):
        with self.assertRaises(Unlike) as told:
            function(*handed)
        self.assertIs(type(told.exception), Unlike)


class Width(Told):
    def test_ordinary(self):
        self.told(width((0, 5, 1), (2, 1, 1)), 4)
        self.told(width((2, 1, 1), (0, 5, 1)), 4)
        self.told(width((0, -5, 1), (0, 5, 2)), 10)

    def test_edges(self):
        self.told(width((5,), (5,)), 0)
        self.told(width((5,), (-5,)), 10)
        self.told(width((0, 5, 1), (0, 5, 1)), 0)

    def test_all_small_dunes(self):
        for one, other in PAIRS:
            self.told(width(one, other), max(gaps(one, other)))

    def test_bounds(self):
        self.told(width(WIDE, WIDE[::-1]), 2 * BOUND)
        self.told(width((0,) * 40, (0,) * 39 + (-1,)), 1)

    def test_unlike(self):
        for one, other in UNLIKE:
            self.unlike(width, one, other)


class Widest(Told):
    def test_ordinary(self):
        self.told(widest((0, 5, 1), (2, 1, 1)), 1)
        self.told(widest((0, 5, 1), (2, 5, 9)), 2)

    def test_the_first_of_several(self):
        self.told(widest((0, 5, 1), (0, 7, -1)), 1)
        self.told(widest((0, 5, 1), (0, 3, 3)), 1)
        self.told(widest((0, 5, 1), (0, 5, 1)), 0)

    def test_one_post(self):
        self.told(widest((5,), (9,)), 0)

    def test_all_small_dunes(self):
        for one, other in PAIRS:
            self.told(widest(one, other), gaps(one, other).index(max(gaps(one, other))))

    def test_bounds(self):
        self.told(widest(WIDE, WIDE[::-1]), 0)
        self.told(widest((0,) * 40, (0,) * 39 + (-1,)), 39)

    def test_unlike(self):
        for one, other in UNLIKE:
            self.unlike(widest, one, other)


class IsBelow(Told):
    def test_ordinary(self):
        self.told(is_below((0, 5, 1), (2, 5, 1)), True)
        self.told(is_below((2, 5, 1), (0, 5, 1)), False)
        self.told(is_below((0, 5, 1), (2, 4, 1)), False)

    def test_edges(self):
        self.told(is_below((5,), (5,)), True)
        self.told(is_below((5,), (4,)), False)
        self.told(is_below((5,), (6,)), True)

    def test_all_small_dunes(self):
        for one, other in PAIRS:
            self.told(is_below(one, other), all(here <= there for here, there in zip(one, other)))

    def test_bounds(self):
        for post in range(40):
            high = (0,) * post + (1,) + (0,) * (39 - post)
            self.told(is_below((0,) * 40, high), True)
            self.told(is_below(high, (0,) * 40), False)

    def test_unlike(self):
        for one, other in UNLIKE:
            self.unlike(is_below, one, other)


class Widths(Told):
    def test_ordinary(self):
        self.told(widths((0, 8), (0, 0), [("cut", 5), ("fill", 3), ("cut", 0)]), [8, 5, 5, 2])

    def test_no_winds(self):
        self.told(widths((0, 8), (0, 0), []), [8])
        self.told(widths((3,), (1,), []), [2])

    def test_one_post(self):
        self.told(widths((3,), (1,), [("cut", 0), ("fill", 0)]), [2, 2, 2])

    def test_never_rise_and_are_those_of_each_day(self):
        for one, other in PAIRS:
            for almanac in ALMANACS:
                told = widths(one, other, almanac)
                wanted = [max(gaps(slow_behind(one, almanac[:many]), slow_behind(other, almanac[:many])))
                          for many in range(len(almanac) + 1)]
                self.told(told, wanted)
                self.assertEqual(told, sorted(told, reverse=True))

    def test_bounds(self):
        almanac = [(WORDS[at % 2], BOUND - at * 10 ** 8) for at in range(30)]
        told = widths(WIDE, WIDE[::-1], almanac)
        self.assertEqual(len(told), 31)
        self.assertEqual(told, sorted(told, reverse=True))
        self.told(told[-1], max(gaps(slow_behind(WIDE, almanac), slow_behind(WIDE[::-1], almanac))))

    def test_unlike(self):
        for one, other in UNLIKE:
            for almanac in ([], [("cut", 0)], [("fill", 1), ("cut", 2)]):
                self.unlike(widths, one, other, almanac)


class NowhereHigher(unittest.TestCase):
    def test_what_was_below_is_below_behind_all_winds(self):
        for one, other in PAIRS:
            if is_below(one, other):
                for almanac in ALMANACS:
                    self.assertIs(is_below(slow_behind(one, almanac), slow_behind(other, almanac)), True)


class Felt(Told):
    def refused(self, dune, almanac, post, by):
        with self.assertRaises(NoPost) as told:
            felt(dune, almanac, post, by)
        self.assertIs(type(told.exception), NoPost)
        self.assertIs(type(told.exception.post), int)
        self.assertTrue(told.exception.post == post)

    def test_ordinary(self):
        self.told(felt((0, 5, 1), [("cut", 2)], 0, 3), (3, 1, 0))
        self.told(felt((0, 5, 1), [("cut", 2)], 1, 3), (0, 0, 0))
        self.told(felt((0, 5, 1), [("fill", 2)], 1, 3), (3, 3, 3))
        self.told(felt((0, 5, 1), [("fill", 2)], 0, 7), (4, 0, 0))

    def test_by_nothing(self):
        self.told(felt((0, 5, 1), [("cut", 2)], 1, 0), (0, 0, 0))

    def test_no_winds(self):
        self.told(felt((0, 5, 1), [], 1, 3), (0, 3, 0))

    def test_one_post(self):
        self.told(felt((5,), [("cut", 0), ("fill", 0)], 0, 8), (8,))

    def test_all_small_dunes(self):
        for dune in small_dunes(3, (0, 1, 4)):
            for almanac in ALMANACS:
                for post, by in itertools.product(range(len(dune)), (0, 1, 3)):
                    higher = dune[:post] + (dune[post] + by,) + dune[post + 1:]
                    ends = zip(slow_behind(higher, almanac), slow_behind(dune, almanac))
                    told = felt(dune, almanac, post, by)
                    self.told(told, tuple([there - here for there, here in ends]))
                    self.assertTrue(all(0 <= rise <= by for rise in told))

    def test_bounds(self):
        almanac = [("cut", BOUND)] * 29 + [("fill", 0)]
        self.told(felt((0,) * 40, almanac, 39, BOUND), (BOUND,) * 40)
        self.told(felt((0,) * 40, almanac, 0, 10 ** 50), (BOUND,) * 40)

    def test_no_such_post(self):
        for post in (-1, -3, 3, 4, BOUND, -10 ** 5000, 10 ** 5000):
            for almanac in ([], [("cut", 2)]):
                for by in (0, 2):
                    self.refused((0, 5, 1), almanac, post, by)
        for post in (-1, 1):
            self.refused((5,), [], post, 1)
        for post in (-1, -40, 40):
            self.refused((0,) * 40, [], post, 1)


if __name__ == "__main__":
    unittest.main()
