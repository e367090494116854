import itertools
import unittest

from dunebooks.between import sure_posts
from dunebooks.errors import Clash
from dunebooks.orders import holds
from dunebooks.sure import corners, fewest_words, is_enough
from samples import (BOUND, Told, slow_almanac, slow_behind, slow_clash, slow_has, slow_held, slow_orders, small_cases,
                     spread_numbers, word_lists, words_of)

DUNES = [(3,), (4, 4, 4), (0, 9), (9, 0, 4), (0, 12, 3, 3, 20), (7, -6, 0, 11)]
FALLING = [BOUND - 10 * at for at in range(12)], [BOUND - 10 * at - 5 for at in range(12)]


def small_books():
    """Pairs of books of none to four slopes, falling and not, alike ones among them."""
    told = [([], []), ([2], []), ([], [2, 1]), ([1], [0]), ([2], [2]), ([3, 1], [2]), ([0], [3, 1]),
            ([6, 4, 2], [5, 3, 1]), ([5, 3, 1, 0], [6, 4, 2, 1]), ([2, 2, 2], [2, 2])]
    for turn in range(8):
        numbers = spread_numbers(turn + 50, 7, 8)
        told += [(numbers[:3], numbers[3:6]), (sorted(numbers[:4], reverse=True), sorted(numbers[4:], reverse=True))]
    return told


BOOKS = small_books()


def slow_corners(order):
    """The words of unlike neighbours, by where each cut and fill stands."""
    numbered = [(sign, order[:at].count(sign)) for at, sign in enumerate(order)]
    told = []
    for (sign, number), (other, next_number) in zip(numbered, numbered[1:]):
        if (sign, other) == ("c", "f"):
            told.append(("cut", number, next_number))
        if (sign, other) == ("f", "c"):
            told.append(("fill", next_number, number))
    return told


def ends_by_order(dune, cuts, fills):
    """What stands behind each order."""
    return {order: slow_behind(dune, slow_almanac(cuts, fills, order)) for order in slow_orders(cuts, fills)}


def slow_enough(ends, words):
    """Whether one dune stands behind each order that has the words."""
    return len({end for order, end in ends.items() if all(slow_has(order, word) for word in words)}) == 1


def slow_fewest(ends, words):
    """Of the lists of these, in their order, that are enough the first of the shortest ones, by going through all."""
    for many in range(len(words) + 1):
        good = [list(row) for row in itertools.combinations(words, many) if slow_enough(ends, row)]
        if good:
            return min(good)
    return None


class Corners(Told):
    def test_ordinary(self):
        self.told(corners("cffc"), [("cut", 0, 0), ("fill", 1, 1)])
        self.told(corners("fccfcf"), [("fill", 0, 0), ("cut", 1, 1), ("fill", 2, 1), ("cut", 2, 2)])

    def test_edges(self):
        for order in ("", "c", "f", "cccc", "fff"):
            self.told(corners(order), [])
        self.told(corners("cf"), [("cut", 0, 0)])
        self.told(corners("fc"), [("fill", 0, 0)])
        self.told(corners("ccff"), [("cut", 1, 0)])
        self.told(corners("ffcc"), [("fill", 0, 1)])

    def test_all_small_orders(self):
        for cuts, fills in itertools.product(range(5), repeat=2):
            for order in slow_orders([0] * cuts, [0] * fills):
                self.told(corners(order), slow_corners(order))

    def test_just_this_order_has_all_of_them(self):
        for order in slow_orders([0] * 4, [0] * 3):
            self.assertEqual(slow_held([0] * 4, [0] * 3, corners(order)), [order])

    def test_bounds(self):
        self.told(corners("cf" * 12), slow_corners("cf" * 12))
        self.assertEqual(len(corners("fc" * 12)), 23)


class IsEnough(Told):
    def test_ordinary(self):
        self.told(is_enough((0, 4), [1], [0], []), False)
        self.told(is_enough((0, 4), [1], [0], [("cut", 0, 0)]), True)
        self.told(is_enough((0, 4), [1], [0], [("fill", 0, 0)]), True)

    def test_some_posts_sure_are_not_enough(self):
        self.assertEqual(sure_posts((0, 0, 6, 0, 0), [4], [4], []), [0, 4])
        self.told(is_enough((0, 0, 6, 0, 0), [4], [4], []), False)

    def test_edges(self):
        self.told(is_enough((5,), [1], [0], []), True)
        self.told(is_enough((5, 5, 5), [1, 0], [0, 2], []), True)
        self.told(is_enough((0, 4), [], [], []), True)
        self.told(is_enough((0, 4), [1], [], []), True)
        self.told(is_enough((0, 4), [], [1, 0], []), True)

    def test_all_small_books(self):
        seen = {True: 0, False: 0}
        for cuts, fills, words in small_cases()[::2]:
            if slow_clash(cuts, fills, words) is None:
                for dune in DUNES[2:5]:
                    wanted = slow_enough(ends_by_order(dune, cuts, fills), words)
                    self.told(is_enough(dune, cuts, fills, words), wanted)
                    seen[wanted] += 1
        self.assertTrue(min(seen.values()) > 100, seen)

    def test_clash(self):
        for cuts, fills, words in small_cases():
            places = slow_clash(cuts, fills, words)
            if places is not None:
                self.refused(Clash, {"places": places}, is_enough, (0, 9), cuts, fills, words)
        words = [("cut", 0, 0), ("cut", 0, 0), ("fill", 0, 0)]
        self.refused(Clash, {"places": (0, 2)}, is_enough, (5,), [1], [1], words)

    def test_bounds(self):
        cuts, fills = FALLING
        dune = (-BOUND, BOUND, BOUND, 0) * 10
        for order in ("cf" * 12, "fc" * 12):
            words = corners(order)
            self.told(is_enough(dune, cuts, fills, words), True)
        self.told(is_enough(dune, cuts, fills, []), False)
        self.told(is_enough((0,) * 40, cuts, fills, []), True)


class FewestWords(Told):
    def test_ordinary(self):
        self.told(fewest_words((0, 4), [1], [0], "cf"), [("cut", 0, 0)])
        self.told(fewest_words((0, 4), [1], [0], "fc"), [("fill", 0, 0)])
        self.told(fewest_words((0, 9), [6, 2], [4], "cfc"), [("cut", 0, 0), ("fill", 1, 0)])

    def test_fewer_than_all_corners(self):
        # Gaps of 5 at most: what the cut of 6 and the fill of 7 have to do with each other is all one.
        self.told(corners("fcfc"), [("fill", 0, 0), ("cut", 0, 1), ("fill", 1, 1)])
        self.told(fewest_words((0, 5), [6, 1], [7, 0], "fcfc"), [("fill", 1, 1)])

    def test_none_are_needed(self):
        for order in slow_orders([1, 0], [2, 0]):
            self.told(fewest_words((5,), [1, 0], [2, 0], order), [])
            self.told(fewest_words((5, 5, 5), [1, 0], [2, 0], order), [])
        self.told(fewest_words((0, 9, 4), [], [], ""), [])
        self.told(fewest_words((0, 9, 4), [3, 1], [], "cc"), [])
        self.told(fewest_words((0, 9, 4), [], [3, 1], "ff"), [])

    def test_the_first_of_several(self):
        dune, cuts, fills, order = (0, 0, 5, 0), [1, 1, 1], [1, 1, 1], "cfcfcf"
        ends = ends_by_order(dune, cuts, fills)
        good = [row for row in itertools.combinations(corners(order), 1) if slow_enough(ends, row)]
        self.assertGreater(len(good), 0)
        self.told(fewest_words(dune, cuts, fills, order), list(min(good)))

    def test_by_going_through_all_lists_of_corners(self):
        found = {}
        for (cuts, fills), dune in itertools.product(BOOKS, DUNES):
            ends = ends_by_order(dune, cuts, fills)
            for order in list(ends)[::1 + len(ends) // 12]:
                wanted = slow_fewest(ends, slow_corners(order))
                self.told(fewest_words(dune, cuts, fills, order), wanted)
                found[len(wanted)] = found.get(len(wanted), 0) + 1
        self.assertTrue(all(found.get(many, 0) > 10 for many in range(5)), found)

    def test_several_shortest_lists_of_both_words(self):
        # One word's first shortest list isn't always part of the first one of both together: where a later fill does
        # as well, the list that begins with a cut is ahead.
        for dune, cuts, fills, order, wanted in [
            ((5, 1, 1, 2, 5, 6, 1, 6, 4, 5), [5, 3, 1], [6, 4, 0], "fcfcfc", [("cut", 1, 2), ("fill", 2, 2)]),
            ((4, 5, 13, 14, 1, 10, 12, 18, 17, 11, 19), [6, 3, 0], [9, 8, 2], "fcfcfc",
             [("cut", 1, 2), ("fill", 2, 2)]),
            ((2, 4, 10, 14, 18, 19, 4), [9, 6, 6, 0], [10, 7, 2, 0], "fcfcfcfc",
             [("cut", 0, 1), ("fill", 1, 1), ("fill", 3, 3)]),
            ((10, 8, 7, 14, 12, 10, 1, 18), [10, 10, 3, 0], [8, 7, 6, 2], "fcfcfcfc",
             [("fill", 0, 0), ("cut", 2, 3), ("fill", 3, 3)]),
            ((9, 5, 1, 0, 12), [12, 6, 4, 3, 0], [10, 5, 4, 3, 3], "cfcfcfcfcf",
             [("cut", 1, 1), ("fill", 2, 1), ("cut", 3, 3)]),
            ((2, 16, 11, 8, 4, 12), [10, 6, 6, 4, 4], [9, 7, 5, 4, 0], "cfcfcfcfcf",
             [("cut", 0, 0), ("cut", 1, 1), ("fill", 3, 2)]),
        ]:
            self.assertEqual(slow_fewest(ends_by_order(dune, cuts, fills), slow_corners(order)), wanted)
            self.told(fewest_words(dune, cuts, fills, order), wanted)

    def test_no_corner_more_on_the_way(self):
        # Here a spot is come to by one corner, and also by another one and then that: such a way is not the shortest.
        wanted = [("cut", 0, 1), ("fill", 1, 1), ("fill", 3, 3), ("fill", 4, 4)]
        for dune, cuts, fills in [
            ((0, 1, -7), [4, 3, 2, 1, 0], [5, 2, 2, 1, 0]),
            ((0, 8, 7), [5, 3, 3, 1, 0], [6, 4, 3, 1, 0]),
            ((6, 6, -3), [5, 4, 3, 2, 0], [6, 3, 3, 2, 1]),
        ]:
            order, swapped = "fcfcfcfcfc", "cfcfcfcfcf"
            self.assertEqual(slow_fewest(ends_by_order(dune, cuts, fills), slow_corners(order)), wanted)
            self.told(fewest_words(dune, cuts, fills, order), wanted)
            self.told(fewest_words(dune[::-1], cuts, fills, order), wanted)
            # Upside down, with cuts for fills, another list may be the first, so all are gone through anew.
            contrary = (tuple([-height for height in dune]), fills, cuts)
            again = slow_fewest(ends_by_order(*contrary), slow_corners(swapped))
            self.assertEqual(len(again), len(wanted))
            self.told(fewest_words(*contrary, swapped), again)

    def test_no_corner_more_in_longer_books(self):
        for dune, cuts, fills, order in [
            ((0, -2, 0, 197), [63, 49, 41, 34, 26, 15, 5], [58, 46, 37, 32, 19, 11], "cfcfcfcfcfcfc"),
            ((1, 49, -23, 56, 192), [135, 119, 113, 99, 85, 57, 40], [128, 114, 104, 90, 79, 41, 40],
             "cfcfcfccfffcfc"),
            ((0, 4, 7, 7, 121), [65, 52, 44, 33, 19, 6, 0], [57, 36, 34, 28, 13, 0], "cfcfcfcfcfcfc"),
        ]:
            # Too many orders to go through for each list, so is_enough, tested above, is asked.
            words = fewest_words(dune, cuts, fills, order)
            alike = [list(row) for row in itertools.combinations(slow_corners(order), len(words))]
            fewer = [list(row) for row in itertools.combinations(slow_corners(order), len(words) - 1)]
            self.told(words, min([row for row in alike if is_enough(dune, cuts, fills, row)]))
            self.assertFalse(any([is_enough(dune, cuts, fills, row) for row in fewer]))

    def test_alternating_orders(self):
        for turn in range(60):
            numbers = spread_numbers(turn, 13, 6)
            dune, cuts, fills = tuple(numbers[:5]), numbers[5:9], numbers[9:]
            ends = ends_by_order(dune, cuts, fills)
            for order in ("cfcfcfcf", "fcfcfcfc", "cfcffcfc"):
                wanted = slow_fewest(ends, slow_corners(order))
                self.told(fewest_words(dune, cuts, fills, order), wanted)

    def test_no_words_that_the_order_has_are_enough_and_fewer(self):
        for cuts, fills in [([2, 0], [1, 0]), ([3, 1], [2, 0]), ([1, 1], [1, 0])]:
            for dune in [(0, 9), (9, 0, 4)]:
                ends = ends_by_order(dune, cuts, fills)
                for order in ends:
                    told = fewest_words(dune, cuts, fills, order)
                    for words in word_lists(cuts, fills, max(0, len(told) - 1)):
                        if len(words) < len(told) and all(word in words_of(order) for word in words):
                            self.assertFalse(slow_enough(ends, words))

    def test_is_enough_and_the_order_has_them(self):
        for (cuts, fills), dune in itertools.product(BOOKS, DUNES[2:]):
            for order in slow_orders(cuts, fills)[::5]:
                words = fewest_words(dune, cuts, fills, order)
                self.assertTrue(holds(order, words) and is_enough(dune, cuts, fills, words))
                for at in range(len(words)):
                    self.assertFalse(is_enough(dune, cuts, fills, words[:at] + words[at + 1:]))

    def test_bounds(self):
        cuts, fills = FALLING
        steep = (-BOUND, BOUND, BOUND, 0) * 10
        for order in ("cf" * 12, "fc" * 12, "cfc" * 6 + "ffffff", "fffc" * 3 + "cccfffccc" + "ccc"):
            for dune in (steep, tuple(range(40)), tuple([at * at * 10 ** 6 for at in range(40)])):
                words = fewest_words(dune, cuts, fills, order)
                self.assertTrue(is_enough(dune, cuts, fills, words))
                self.assertEqual([word for word in corners(order) if word in words], words)
                for at in range(len(words)):
                    self.assertFalse(is_enough(dune, cuts, fills, words[:at] + words[at + 1:]))
        # Each corner tells of other heights of this step, so none can be left out.
        self.told(fewest_words((0, 2 * BOUND), cuts, fills, "cf" * 12), corners("cf" * 12))


if __name__ == "__main__":
    unittest.main()
