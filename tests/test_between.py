import functools
import unittest

from dunebooks.between import greatest_order, least_order, may_stand, sure_posts
from dunebooks.errors import Clash
from samples import (BOUND, shape, slow_almanac, slow_behind, slow_clash, slow_held, slow_orders, small_cases,
                     words_of)

CASES = [(cuts, fills, words, slow_held(cuts, fills, words)) for cuts, fills, words in small_cases()]
GOOD = [case for case in CASES if case[3]]
BAD = [case[:3] for case in CASES if not case[3]]
DUNES = [(3,), (0, 9), (9, 0, 4), (0, 12, 3, 3, 20), (7, -6, 0, 11)]
TWELVE = [BOUND - at for at in range(12)]


def counts(order):
    """How many cuts are ahead of each fill."""
    return [order[:at].count("c") for at, sign in enumerate(order) if sign == "f"]


def one_with(held, best):
    """The one order with the most, or the fewest, cuts ahead of each fill at once."""
    columns = [best(column) for column in zip(*[counts(order) for order in held])]
    (told,) = [order for order in held if counts(order) == columns]
    return told


@functools.cache
def end_of(dune, cuts, fills, order):
    """The dune behind an order of two books, done slowly."""
    return slow_behind(dune, slow_almanac(cuts, fills, order))


def ends_of(dune, cuts, fills, held):
    """The dunes behind each of these orders."""
    return [end_of(dune, tuple(cuts), tuple(fills), order) for order in held]


class Told(unittest.TestCase):
    def told(self, told, wanted):
        self.assertEqual(shape(told), shape(wanted))


class Orders(Told):
    def test_ordinary(self):
        self.told(least_order([1, 1], [1, 1], []), "ccff")
        self.told(greatest_order([1, 1], [1, 1], []), "ffcc")
        self.told(least_order([1, 1], [1, 1], [("fill", 1, 0)]), "cfcf")
        self.told(greatest_order([1, 1], [1, 1], [("cut", 0, 1)]), "fcfc")
        self.told(least_order([1, 1], [1, 1], [("cut", 0, 1)]), "ccff")
        self.told(greatest_order([1, 1], [1, 1], [("fill", 1, 0)]), "ffcc")

    def test_books_of_none(self):
        for told in (least_order, greatest_order):
            self.told(told([], [], []), "")
            self.told(told([3, 2], [], []), "cc")
            self.told(told([], [3, 2], []), "ff")

    def test_all_words_of_one_order(self):
        for order in slow_orders([1, 1, 1], [1, 1, 1]):
            self.told(least_order([1, 1, 1], [1, 1, 1], words_of(order)), order)
            self.told(greatest_order([1, 1, 1], [1, 1, 1], words_of(order)), order)

    def test_all_small_books(self):
        for cuts, fills, words, held in GOOD:
            self.told(least_order(cuts, fills, words), one_with(held, max))
            self.told(greatest_order(cuts, fills, words), one_with(held, min))

    def test_bounds(self):
        self.told(least_order(TWELVE, TWELVE, []), "c" * 12 + "f" * 12)
        self.told(greatest_order(TWELVE, TWELVE, []), "f" * 12 + "c" * 12)
        words = [("cut", at, at) for at in range(12)] + [("fill", 11, 0)] * 8
        self.told(least_order(TWELVE, TWELVE, words), "c" * 11 + "fc" + "f" * 11)
        self.told(greatest_order(TWELVE, TWELVE, words), "cf" * 12)


class MayStand(Told):
    def test_ordinary(self):
        self.told(may_stand((0, 4), [1], [0], []), ((1, 1), (4, 4)))
        self.told(may_stand((0, 4), [1], [0], [("cut", 0, 0)]), ((1, 1), (1, 1)))
        self.told(may_stand((0, 4), [1], [0], [("fill", 0, 0)]), ((4, 4), (4, 4)))

    def test_books_of_none(self):
        self.told(may_stand((0, 4), [], [], []), ((0, 4), (0, 4)))
        self.told(may_stand((0, 4), [1], [], []), ((0, 1), (0, 1)))
        self.told(may_stand((0, 4), [], [1], []), ((3, 4), (3, 4)))

    def test_one_post(self):
        self.told(may_stand((5,), [1, 0], [0, 3], [("cut", 1, 0)]), ((5,), (5,)))

    def test_all_lies_between_and_both_ends_are_come_to(self):
        for cuts, fills, words, held in GOOD:
            for dune in DUNES:
                ends = ends_of(dune, cuts, fills, held)
                least = tuple([min(column) for column in zip(*ends)])
                greatest = tuple([max(column) for column in zip(*ends)])
                self.told(may_stand(dune, cuts, fills, words), (least, greatest))
                self.assertTrue(least in ends and greatest in ends)

    def test_bounds(self):
        dune = (-BOUND, BOUND, BOUND, 0) * 10
        cuts, fills = [BOUND - 10 * at for at in range(12)], [BOUND - 10 * at - 5 for at in range(12)]
        words = [("cut", at, at + 1) for at in range(10)] + [("fill", at + 1, at) for at in range(10)]
        for told in ([], words):
            wanted = [slow_behind(dune, slow_almanac(cuts, fills, order(cuts, fills, told)))
                      for order in (least_order, greatest_order)]
            self.told(may_stand(dune, cuts, fills, told), tuple(wanted))
        self.assertEqual(greatest_order(cuts, fills, words), "fc" * 10 + "ffcc")


class SurePosts(Told):
    def test_ordinary(self):
        self.told(sure_posts((0, 4), [1], [0], []), [])
        self.told(sure_posts((0, 4), [1], [0], [("cut", 0, 0)]), [0, 1])
        # The peak is 4 or 6, its two neighbours are 0 or 2.
        self.told(sure_posts((0, 0, 6, 0, 0), [4], [4], []), [0, 4])

    def test_edges(self):
        self.told(sure_posts((5,), [1], [0], []), [0])
        self.told(sure_posts((0, 4, 1), [], [], []), [0, 1, 2])
        self.told(sure_posts((0, 4, 1), [1], [], []), [0, 1, 2])
        self.told(sure_posts((0, 4, 1), [], [1], []), [0, 1, 2])
        self.told(sure_posts((4,) * 40, [0] * 12, [0] * 12, []), list(range(40)))
        self.told(sure_posts((-BOUND, BOUND) * 20, [0] * 12, [0] * 12, []), [])

    def test_just_where_all_orders_come_to_one_height(self):
        for cuts, fills, words, held in GOOD:
            for dune in DUNES:
                columns = list(zip(*ends_of(dune, cuts, fills, held)))
                wanted = [post for post, column in enumerate(columns) if len(set(column)) == 1]
                self.told(sure_posts(dune, cuts, fills, words), wanted)


class Clashes(Told):
    def clashes(self, places, function, *handed):
        with self.assertRaises(Clash) as told:
            function(*handed)
        self.assertIs(type(told.exception), Clash)
        self.told(told.exception.places, places)

    def test_all_small_books(self):
        self.assertGreater(len(BAD), 100)
        for cuts, fills, words in BAD:
            places = slow_clash(cuts, fills, words)
            self.clashes(places, least_order, cuts, fills, words)
            self.clashes(places, greatest_order, cuts, fills, words)
            self.clashes(places, may_stand, (0, 4), cuts, fills, words)
            self.clashes(places, sure_posts, (0, 4), cuts, fills, words)

    def test_also_where_all_would_be_sure(self):
        words = [("cut", 0, 0), ("cut", 0, 0), ("fill", 0, 0)]
        for dune in ((5,), (5, 5)):
            self.clashes((0, 2), may_stand, dune, [1], [1], words)
            self.clashes((0, 2), sure_posts, dune, [1], [1], words)


if __name__ == "__main__":
    unittest.main()
