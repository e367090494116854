import itertools
import unittest

from dunebooks.bookcores import cores_all, cores_many, ends_all, order_for, order_to
from dunebooks.cores import is_core
from dunebooks.errors import NoCore, TooMany
from samples import (BOUND, Told, slow_almanac, slow_behind, slow_core, slow_orders, small_almanacs, spread_numbers)

DUNES = [(4,), (0, 9), (3, 0, 1), (0, 7, 2, 2), (5, -3, 0, 6, 1)]
# Just as many cores as are told, and one more.
MOST = ([39, 38, 36, 35, 33, 32, 30], [40, 38, 37, 34, 33, 31, 29])
ONE_MORE = ([40, 39, 37, 34, 33, 32, 29], [38, 36, 35, 33, 31, 30, 29])
# Each falling, one slope of the one between two of the other.
EVEN, ODD = list(range(24, 0, -2)), list(range(23, 0, -2))


def small_books():
    """Pairs of small books: all of few slopes, and longer ones, falling and not."""
    each = [list(book) for many in range(3) for book in itertools.product((0, 1, 2), repeat=many)]
    told = list(itertools.product(each, repeat=2))
    for many in (3, 4, 5):
        for turn in range(12):
            numbers = spread_numbers(turn, 2 * many, 7)
            cuts, fills = numbers[:many], numbers[many:][:many - turn % 2]
            told += [(cuts, fills), (sorted(cuts, reverse=True), sorted(fills, reverse=True))]
    return told + [([], [3, 2, 1]), ([3, 1, 2, 0], []), ([5, 4, 3], [2, 1, 0]), ([2, 1, 0], [5, 4, 3]),
                   ([3, 2, 1], [3, 2, 1]), ([9, 7, 5, 3], [8, 6, 4, 2]), ([4, 4, 4], [4, 4]), ([0, 5], [0, 5])]


def by_core(cuts, fills):
    """The first order of each core that some order has, by going through all orders."""
    told = {}
    for order in slow_orders(cuts, fills):
        told.setdefault(tuple(slow_core(slow_almanac(cuts, fills, order))), order)
    return told


CASES = [(cuts, fills, by_core(cuts, fills)) for cuts, fills in small_books()]


class CoresMany(Told):
    def test_ordinary(self):
        self.told(cores_many([3], [2]), 2)
        self.told(cores_many([4, 2], [3]), 3)
        self.told(cores_many([4, 2], [3, 1]), 5)

    def test_books_of_none(self):
        self.told(cores_many([], []), 1)
        self.told(cores_many([3, 2, 1], []), 1)
        self.told(cores_many([], [5]), 1)

    def test_alike_slopes(self):
        self.told(cores_many([3, 3], [2]), 2)
        self.told(cores_many([3], [3]), 2)
        self.told(cores_many([3, 2], [3, 2]), 4)
        self.told(cores_many([0, 0], [0, 0, 0]), 2)

    def test_winds_that_no_order_lets_change_anything(self):
        self.told(cores_many([2, 9, 7], [1, 8]), 2)
        self.told(cores_many([9, 2, 7], [1, 8]), 3)

    def test_by_going_through_all_orders(self):
        for cuts, fills, wanted in CASES:
            self.told(cores_many(cuts, fills), len(wanted))

    def test_just_so_many_as_are_told(self):
        for (cuts, fills), many in ((MOST, 300), (ONE_MORE, 301)):
            self.assertEqual(len(by_core(cuts, fills)), many)
            self.told(cores_many(cuts, fills), many)

    def test_bounds(self):
        sixty = [BOUND - 2 * at for at in range(60)]
        between = [slope - 1 for slope in sixty]
        one, other = 1, 2
        for step in range(119):
            one, other = other, one + other
        self.told(cores_many(sixty, between), one)
        self.told(cores_many(between, sixty), one)
        self.told(cores_many(sixty, sixty), 2 ** 60)
        self.told(cores_many(sixty, [1] * 60), 61)
        self.told(cores_many([0] * 60, sixty), 61)
        self.told(cores_many(sixty[::-1], between[::-1]), 2)


class CoresAll(Told):
    def test_ordinary(self):
        self.told(cores_all([3], [2]), [[("cut", 3), ("fill", 2)], [("fill", 2)]])
        self.told(cores_all([4, 2], [3]), [[("cut", 2)], [("cut", 4), ("fill", 3), ("cut", 2)],
                                           [("fill", 3), ("cut", 2)]])

    def test_books_of_none(self):
        self.told(cores_all([], []), [[]])
        self.told(cores_all([3, 2, 5], []), [[("cut", 2)]])
        self.told(cores_all([], [0]), [[("fill", 0)]])

    def test_alike_slopes(self):
        self.told(cores_all([3, 3], [3]), [[("cut", 3)], [("fill", 3)]])

    def test_by_going_through_all_orders(self):
        for cuts, fills, wanted in CASES:
            self.told(cores_all(cuts, fills), sorted([list(core) for core in wanted]))

    def test_each_is_a_core_and_none_comes_twice(self):
        told = cores_all(*MOST)
        self.assertEqual(len(told), 300)
        self.told(told, sorted([list(core) for core in by_core(*MOST)]))
        self.assertTrue(all(is_core(core) for core in told))
        self.assertTrue(all(one < other for one, other in zip(told, told[1:])))

    def test_too_many(self):
        self.refused(TooMany, {"many": 301}, cores_all, *ONE_MORE)
        self.refused(TooMany, {"many": cores_many(EVEN, ODD)}, cores_all, EVEN, ODD)
        self.refused(TooMany, {"many": 2 ** 12}, cores_all, EVEN, EVEN)

    def test_bounds(self):
        twelve = [BOUND - at for at in range(12)]
        self.told(cores_all(twelve, [0] * 12), sorted(
            [[("fill", 0)]] + [[("cut", slope), ("fill", 0)] for slope in twelve]))
        self.assertEqual(len(cores_all(twelve[:8], twelve[:8])), 256)


class OrderFor(Told):
    def test_ordinary(self):
        self.told(order_for([3], [2], [("cut", 3), ("fill", 2)]), "cf")
        self.told(order_for([3], [2], [("fill", 2)]), "fc")
        self.told(order_for([4, 2], [3], [("cut", 4), ("fill", 3), ("cut", 2)]), "cfc")

    def test_the_first_order_as_texts_rise(self):
        self.told(order_for([3, 5], [2, 4], [("cut", 3), ("fill", 2)]), "ccff")
        self.told(order_for([3, 5], [2, 4], [("fill", 2)]), "fccf")

    def test_books_of_none(self):
        self.told(order_for([], [], []), "")
        self.told(order_for([3, 2], [], [("cut", 2)]), "cc")
        self.told(order_for([], [3, 2], [("fill", 2)]), "ff")

    def test_each_core_by_going_through_all_orders(self):
        for cuts, fills, wanted in CASES:
            for core, order in wanted.items():
                self.told(order_for(cuts, fills, list(core)), order)

    def test_each_small_almanac(self):
        almanacs = small_almanacs(3, (0, 1, 2))
        for cuts, fills, wanted in CASES[:169:3]:
            for almanac in almanacs:
                if tuple(almanac) in wanted:
                    self.told(order_for(cuts, fills, almanac), wanted[tuple(almanac)])
                else:
                    self.refused(NoCore, {"core": almanac}, order_for, cuts, fills, almanac)

    def test_a_core_that_none_has(self):
        for core in ([], [("cut", 2)], [("fill", 2), ("cut", 3)], [("cut", 3), ("fill", 1)], [("cut", 3)],
                     [("fill", 3), ("cut", 2)], [("cut", 4), ("fill", 2)], [("cut", 3), ("fill", 2), ("cut", 0)],
                     [("fill", 9), ("cut", 3), ("fill", 2)], [("cut", BOUND)]):
            self.refused(NoCore, {"core": core}, order_for, [3], [2], core)
        self.refused(NoCore, {"core": [("cut", 1)]}, order_for, [], [], [("cut", 1)])
        self.refused(NoCore, {"core": []}, order_for, [], [0], [])
        self.refused(NoCore, {"core": [("fill", 2)]}, order_for, [2], [], [("fill", 2)])

    def test_an_almanac_that_is_no_core(self):
        for almanac in ([("cut", 3), ("fill", 2), ("fill", 2)], [("cut", 3), ("cut", 3), ("fill", 2)],
                        [("cut", 5), ("cut", 3), ("fill", 2)], [("fill", 2), ("cut", 3)], [("fill", 2), ("fill", 2)]):
            self.refused(NoCore, {"core": almanac}, order_for, [3], [2], almanac)

    def test_the_core_as_it_is_handed_in(self):
        for core in (([("cut", 9)]), (("cut", 9),), [["cut", 9]], (["cut", 9], ("fill", 1)), (), []):
            self.refused(NoCore, {"core": core}, order_for, [3], [2], core)

    def test_also_where_there_are_too_many_to_list(self):
        for order in ("cf" * 12, "fc" * 12, "cc" + "fc" * 10 + "ff", "ffccfcfcfcfcffccfcfcfccf"):
            core = slow_core(slow_almanac(EVEN, ODD, order))
            told = order_for(EVEN, ODD, core)
            self.assertLessEqual(told, order)
            self.assertEqual(slow_core(slow_almanac(EVEN, ODD, told)), core)
        self.told(order_for(EVEN, ODD, slow_core(slow_almanac(EVEN, ODD, "cf" * 12))), "cf" * 12)

    def test_the_most_that_are_told(self):
        for core, order in by_core(*MOST).items():
            self.told(order_for(*MOST, list(core)), order)


def by_end(dune, cuts, fills):
    """The first order that leads the dune to each dune that some order leads it to."""
    told = {}
    for order in slow_orders(cuts, fills):
        told.setdefault(slow_behind(dune, slow_almanac(cuts, fills, order)), order)
    return told


ENDS = [(dune, cuts, fills, by_end(dune, cuts, fills)) for dune in DUNES for cuts, fills, wanted in CASES[::2]]


class OrderTo(Told):
    def test_ordinary(self):
        self.told(order_to((0, 4), [1], [0], (1, 1)), "cf")
        self.told(order_to((0, 4), [1], [0], (4, 4)), "fc")
        self.told(order_to((0, 4), [1], [0], (2, 2)), None)

    def test_books_of_none(self):
        self.told(order_to((0, 4), [], [], (0, 4)), "")
        self.told(order_to((0, 4), [], [], (4, 0)), None)
        self.told(order_to((0, 4), [1, 1], [], (0, 1)), "cc")

    def test_several_orders_and_several_cores_lead_there(self):
        self.told(order_to((0, 1), [3, 2], [3, 2], (0, 1)), "ccff")
        # The cores f1 and c2 f1 do the same to this dune, and the order of the second is the first.
        self.told(order_to((0, 2), [2], [1], (1, 2)), "cf")

    def test_told_dunes_of_other_posts(self):
        for told in ((0,), (0, 4, 4), (1, 1, 1), (1,)):
            self.told(order_to((0, 4), [1], [0], told), None)

    def test_by_going_through_all_orders(self):
        for dune, cuts, fills, wanted in ENDS:
            for told, order in wanted.items():
                self.told(order_to(dune, cuts, fills, told), order)
                other = told[:-1] + (told[-1] + 1,)
                self.told(order_to(dune, cuts, fills, other), wanted.get(other))

    def test_just_so_many_as_are_told(self):
        dune = (0, 45, 3, 40)
        for told, order in by_end(dune, *MOST).items():
            self.told(order_to(dune, *MOST, told), order)

    def test_too_many_goes_ahead_of_none(self):
        for told in ((0, 9), (1, 1), (5,), (7, 7, 7)):
            self.refused(TooMany, {"many": 301}, order_to, (0, 9), *ONE_MORE, told)
        self.refused(TooMany, {"many": 2 ** 12}, order_to, (0,), EVEN, EVEN, (0,))


class EndsAll(Told):
    def test_ordinary(self):
        self.told(ends_all((0, 4), [1], [0]), [(1, 1), (4, 4)])
        self.told(ends_all((4, 0), [3], [1]), [(3, 2), (4, 3)])

    def test_books_of_none_and_one_post(self):
        self.told(ends_all((0, 4), [], []), [(0, 4)])
        self.told(ends_all((0, 4), [1, 3], []), [(0, 1)])
        self.told(ends_all((4,), [1, 3], [2, 0]), [(4,)])

    def test_by_going_through_all_orders(self):
        for dune, cuts, fills, wanted in ENDS:
            self.told(ends_all(dune, cuts, fills), sorted(wanted))

    def test_just_so_many_as_are_told(self):
        for dune in ((0, 50), (0, 45, 3, 40), (1, 1)):
            self.told(ends_all(dune, *MOST), sorted(by_end(dune, *MOST)))
        self.assertGreater(len(ends_all((0, 50), *MOST)), 10)

    def test_too_many(self):
        self.refused(TooMany, {"many": 301}, ends_all, (0, 9), *ONE_MORE)
        self.refused(TooMany, {"many": 301}, ends_all, (0,), *ONE_MORE)

    def test_bounds(self):
        dune = (-BOUND, BOUND) * 20
        twelve = [BOUND - at for at in range(12)]
        self.told(ends_all(dune, twelve, [0] * 12),
                  sorted([(BOUND,) * 40] + [(slope - BOUND,) * 40 for slope in twelve]))


if __name__ == "__main__":
    unittest.main()
