import itertools
import math
import unittest

from dunebooks.errors import Against, Clash, NoOrder
from dunebooks.orders import (almanac_of, books_of, bounds, holds, is_order, number_of, order_at, order_of,
                              orders_many)
from samples import (BOUND, nested, shape, slow_almanac, slow_clash, slow_has, slow_held, slow_orders, small_almanacs,
                     small_cases, strange_things, words_of)

CASES = [(cuts, fills, words, slow_held(cuts, fills, words)) for cuts, fills, words in small_cases()]
GOOD = [case for case in CASES if case[3]]
BAD = [case[:3] for case in CASES if not case[3]]
BOOKS = [([4, 2, 3][:cuts], [3, 5, 1][:fills]) for cuts in range(4) for fills in range(4)]
TWELVE = [BOUND - at for at in range(12)]
# These leave each of the first fills two places, the last two three.
TWENTY = [("cut", at, at + 1) for at in range(10)] + [("fill", at + 1, at) for at in range(10)]


class Told(unittest.TestCase):
    def told(self, told, wanted):
        self.assertEqual(shape(told), shape(wanted))

    def clashes(self, places, function, *handed):
        with self.assertRaises(Clash) as told:
            function(*handed)
        self.assertIs(type(told.exception), Clash)
        self.told(told.exception.places, places)


class IsOrder(unittest.TestCase):
    def test_orders(self):
        for order in ("ccff", "cfcf", "cffc", "fccf", "fcfc", "ffcc"):
            self.assertIs(is_order([3, 1], [2, 2], order), True, order)

    def test_all_short_texts(self):
        texts = ["".join(row) for many in range(6) for row in itertools.product("cfC ", repeat=many)]
        for cuts, fills in BOOKS[:3] + [([1], [1]), ([1, 1], [1]), ([2], [3, 3]), ([2, 3], [3, 3]), ([2, 3, 1], [4])]:
            orders = slow_orders(cuts, fills)
            for text in texts:
                self.assertIs(is_order(cuts, fills, text), text in orders, (cuts, fills, text))

    def test_books_of_none(self):
        self.assertIs(is_order([], [], ""), True)
        self.assertIs(is_order([1, 2], [], "cc"), True)
        self.assertIs(is_order([], [1, 2], "ff"), True)
        for thing in ("c", "f", " ", "cf", None, [], (), 0, False):
            self.assertIs(is_order([], [], thing), False, thing)
        self.assertIs(is_order([1], [], "f"), False)
        self.assertIs(is_order([], [1], "c"), False)

    def test_other_signs(self):
        for text in ("cF", "Cf", "c f", "cf ", " cf", "cf\n", "c-", "cff", "ccf", "c\u0192", "\u0441f", "cutfill"):
            self.assertIs(is_order([1], [1], text), False, text)

    def test_lists_and_tuples_are_no_orders(self):
        for thing in (["c", "f"], ("c", "f"), ["cf"], ("cf",), [["c"], ["f"]], 2, True, None):
            self.assertIs(is_order([1], [1], thing), False, thing)
        for thing in (["c"], ("c",), [], (), [None], (None,)):
            self.assertIs(is_order([1], [], thing), False, thing)
            self.assertIs(is_order([], [], thing), False, thing)

    def test_strange_things(self):
        for thing in strange_things():
            for cuts, fills in BOOKS:
                wanted = isinstance(thing, str) and thing in slow_orders(cuts, fills)
                self.assertIs(is_order(cuts, fills, thing), wanted, (cuts, fills, thing))

    def test_nested(self):
        for deep in range(1, 13):
            for kinds in [(tuple,), (list,), (tuple, list)]:
                self.assertIs(is_order([1], [1], nested("cf", deep, kinds)), False)

    def test_bounds_are_not_looked_at(self):
        self.assertIs(is_order([1] * 500, [2] * 700, "cf" * 500 + "f" * 200), True)
        self.assertIs(is_order([1] * 500, [2] * 700, "cf" * 500 + "f" * 199), False)
        self.assertIs(is_order([1] * 500, [2] * 700, "cf" * 500 + "f" * 199 + "c"), False)


class AlmanacOf(Told):
    def test_ordinary(self):
        self.told(almanac_of([4, 2], [3], "cfc"), [("cut", 4), ("fill", 3), ("cut", 2)])
        self.told(almanac_of([4, 2], [3], "fcc"), [("fill", 3), ("cut", 4), ("cut", 2)])

    def test_books_of_none(self):
        self.told(almanac_of([], [], ""), [])
        self.told(almanac_of([1, 7], [], "cc"), [("cut", 1), ("cut", 7)])
        self.told(almanac_of([], [7, 1], "ff"), [("fill", 7), ("fill", 1)])

    def test_all_small_books(self):
        for cuts, fills in BOOKS:
            for order in slow_orders(cuts, fills):
                self.told(almanac_of(cuts, fills, order), slow_almanac(cuts, fills, order))

    def test_bounds(self):
        wanted = [wind for slope in TWELVE for wind in (("fill", slope), ("cut", slope))]
        self.told(almanac_of(TWELVE, TWELVE, "fc" * 12), wanted)


class BooksAndOrderOf(Told):
    def test_ordinary(self):
        almanac = [("cut", 4), ("fill", 3), ("cut", 2), ("cut", 4)]
        self.told(books_of(almanac), ([4, 2, 4], [3]))
        self.told(order_of(almanac), "cfcc")

    def test_none(self):
        self.told(books_of([]), ([], []))
        self.told(order_of([]), "")
        self.told(books_of([("cut", 3), ("cut", 1)]), ([3, 1], []))
        self.told(books_of([("fill", 0)]), ([], [0]))
        self.told(order_of([("cut", 3), ("cut", 1)]), "cc")
        self.told(order_of([("fill", 0)]), "f")

    def test_the_two_lists_are_two(self):
        cuts, fills = books_of([])
        cuts.append(1)
        self.told(fills, [])

    def test_there_and_back(self):
        for cuts, fills in BOOKS:
            for order in slow_orders(cuts, fills):
                almanac = slow_almanac(cuts, fills, order)
                self.told(books_of(almanac), (cuts, fills))
                self.told(order_of(almanac), order)
        for almanac in small_almanacs(3, (0, 2)):
            cuts, fills = books_of(almanac)
            self.assertIs(is_order(cuts, fills, order_of(almanac)), True)
            self.told(almanac_of(cuts, fills, order_of(almanac)), almanac)

    def test_bounds(self):
        almanac = [("cut", BOUND), ("fill", 0), ("fill", BOUND)] * 10
        self.told(books_of(almanac), ([BOUND] * 10, [0, BOUND] * 10))
        self.told(order_of(almanac), "cff" * 10)


class Holds(unittest.TestCase):
    def test_ordinary(self):
        self.assertIs(holds("cfc", [("cut", 0, 0)]), True)
        self.assertIs(holds("cfc", [("fill", 0, 0)]), False)
        self.assertIs(holds("cfc", [("fill", 1, 0)]), True)
        self.assertIs(holds("cfc", [("cut", 1, 0)]), False)
        self.assertIs(holds("cfc", [("cut", 0, 0), ("fill", 1, 0)]), True)
        self.assertIs(holds("ccf", [("cut", 0, 0), ("fill", 1, 0)]), False)

    def test_no_words(self):
        for order in ("", "c", "ff", "cfcf"):
            self.assertIs(holds(order, []), True)

    def test_one_that_it_has_not_anywhere(self):
        order = "cfcffc"
        words = words_of(order)
        self.assertIs(holds(order, words), True)
        self.assertIs(holds(order, words + words), True)
        for at, (first, cut, fill) in enumerate(words):
            other = ("fill" if first == "cut" else "cut", cut, fill)
            self.assertIs(holds(order, words[:at] + [other] + words[at + 1:]), False)
            self.assertIs(holds(order, words + [other]), False)

    def test_words_that_no_order_has(self):
        for order in slow_orders([1, 1], [1, 1]):
            self.assertIs(holds(order, [("cut", 0, 0), ("fill", 0, 0)]), False)
            self.assertIs(holds(order, [("cut", 1, 0), ("fill", 0, 1)]), False)

    def test_all_small_books(self):
        for cuts, fills, words, held in CASES:
            for order in slow_orders(cuts, fills):
                self.assertIs(holds(order, words), order in held, (order, words))

    def test_bounds(self):
        order = "cf" * 12
        self.assertIs(holds(order, [("cut", at, at) for at in range(12)] + [("fill", 11, 10)] * 8), True)
        self.assertIs(holds(order, [("cut", at, at) for at in range(12)] + [("cut", 11, 10)] * 8), False)


class Bounds(Told):
    def test_ordinary(self):
        self.told(bounds([4, 2], [3], []), [(0, 2)])
        self.told(bounds([4, 2], [3], [("cut", 0, 0)]), [(1, 2)])
        self.told(bounds([4, 2], [3], [("fill", 1, 0)]), [(0, 1)])
        self.told(bounds([4, 2], [3], [("fill", 1, 0), ("cut", 0, 0)]), [(1, 1)])

    def test_what_follows_for_other_fills(self):
        self.told(bounds([1, 1, 1], [1, 1, 1], [("cut", 1, 1)]), [(0, 3), (2, 3), (2, 3)])
        self.told(bounds([1, 1, 1], [1, 1, 1], [("fill", 1, 1)]), [(0, 1), (0, 1), (0, 3)])

    def test_books_of_none(self):
        self.told(bounds([], [], []), [])
        self.told(bounds([4, 2], [], []), [])
        self.told(bounds([], [4, 2], []), [(0, 0), (0, 0)])

    def test_words_told_twice_and_words_that_follow(self):
        self.told(bounds([1, 1], [1, 1], [("cut", 1, 0)] * 2), [(2, 2), (2, 2)])
        self.told(bounds([1, 1], [1, 1], [("cut", 1, 0), ("cut", 0, 0), ("cut", 0, 1)]), [(2, 2), (2, 2)])
        self.told(bounds([1, 1], [1, 1], [("cut", 0, 1), ("cut", 0, 0), ("cut", 1, 0)]), [(2, 2), (2, 2)])

    def test_slopes_do_not_count(self):
        words = [("cut", 0, 1), ("fill", 1, 1)]
        for cuts, fills in itertools.product(itertools.product((0, 1, BOUND), repeat=2), repeat=2):
            self.told(bounds(list(cuts), list(fills), words), [(0, 1), (1, 1)])

    def test_all_small_books(self):
        for cuts, fills, words, held in GOOD:
            counts = [[order[:at].count("c") for at, sign in enumerate(order) if sign == "f"] for order in held]
            wanted = [(min(column), max(column)) for column in zip(*counts)]
            self.told(bounds(cuts, fills, words), wanted)

    def test_bounds(self):
        self.told(bounds(TWELVE, TWELVE, []), [(0, 12)] * 12)
        self.told(bounds(TWELVE, TWELVE, TWENTY), [(at, at + 1) for at in range(10)] + [(10, 12), (10, 12)])
        order = "cf" * 12
        self.told(bounds(TWELVE, TWELVE, words_of(order)), [(at + 1, at + 1) for at in range(12)])


class Clashes(Told):
    def test_at_once(self):
        self.clashes((0, 1), bounds, [1], [1], [("cut", 0, 0), ("fill", 0, 0)])
        self.clashes((0, 1), bounds, [1], [1], [("fill", 0, 0), ("cut", 0, 0)])

    def test_by_the_books(self):
        self.clashes((0, 1), bounds, [1, 1], [1, 1], [("cut", 1, 0), ("fill", 0, 1)])
        self.clashes((0, 1), bounds, [1, 1], [1, 1], [("fill", 0, 1), ("cut", 1, 0)])
        self.clashes((0, 1), bounds, [1, 1], [1], [("cut", 1, 0), ("fill", 0, 0)])
        self.clashes((0, 1), bounds, [1], [1, 1], [("cut", 0, 0), ("fill", 0, 1)])

    def test_no_clash(self):
        self.told(bounds([1, 1], [1], [("cut", 0, 0), ("fill", 1, 0)]), [(1, 1)])
        self.told(bounds([1], [1, 1], [("fill", 0, 0), ("cut", 0, 1)]), [(0, 0), (1, 1)])
        self.told(bounds([1, 1], [1, 1], [("cut", 0, 1), ("fill", 1, 0)]), [(0, 1), (1, 2)])

    def test_the_first_pair_as_pairs_rise(self):
        # (0, 3) is ahead of (1, 2), though its later word stands behind the other pair's.
        words = [("cut", 0, 0), ("cut", 1, 1), ("fill", 1, 1), ("fill", 0, 0)]
        self.clashes((0, 3), bounds, [1, 1], [1, 1], words)
        self.clashes((0, 2), bounds, [1, 1], [1, 1], [("cut", 0, 0), ("cut", 0, 0), ("fill", 0, 0), ("fill", 0, 0)])
        self.clashes((1, 2), bounds, [1, 1], [1, 1], [("cut", 0, 1), ("cut", 1, 1), ("fill", 1, 1)])

    def test_no_third_word_is_needed(self):
        for cuts, fills, words in BAD:
            self.assertIsNot(slow_clash(cuts, fills, words), None)

    def test_all_small_books(self):
        for cuts, fills, words in BAD:
            places = slow_clash(cuts, fills, words)
            self.clashes(places, bounds, cuts, fills, words)
            self.clashes(places, orders_many, cuts, fills, words)
            self.clashes(places, order_at, cuts, fills, words, 0)
            self.clashes(places, number_of, cuts, fills, words, slow_orders(cuts, fills)[0])

    def test_ahead_of_other_refusals(self):
        words = [("fill", 0, 0), ("cut", 1, 0), ("fill", 1, 1)]
        for number in (-1, 0, 6, BOUND, 10 ** 5000):
            self.clashes((0, 1), order_at, [1, 1], [1, 1], words, number)
        for order in slow_orders([1, 1], [1, 1]):
            self.clashes((0, 1), number_of, [1, 1], [1, 1], words, order)

    def test_bounds(self):
        words = TWENTY[:19] + [("fill", 3, 11)]
        self.clashes((3, 19), bounds, TWELVE, TWELVE, words)


class OrdersMany(Told):
    def test_ordinary(self):
        self.told(orders_many([1, 1], [1], []), 3)
        self.told(orders_many([1, 1], [1], [("cut", 0, 0)]), 2)
        self.told(orders_many([1, 1], [1], [("cut", 0, 0), ("fill", 1, 0)]), 1)

    def test_books_of_none(self):
        self.told(orders_many([], [], []), 1)
        self.told(orders_many([3, 2], [], []), 1)
        self.told(orders_many([], [3, 2], []), 1)

    def test_all_small_books(self):
        for cuts, fills, words, held in GOOD:
            self.told(orders_many(cuts, fills, words), len(held))

    def test_bounds(self):
        self.told(orders_many(TWELVE, TWELVE, []), math.comb(24, 12))
        # Of orders in which no fill is ahead of its own cut there are Catalan's number.
        ahead = [("cut", at, at) for at in range(12)]
        self.told(orders_many(TWELVE, TWELVE, ahead), math.comb(24, 12) // 13)
        self.told(orders_many(TWELVE, TWELVE, ahead + ahead[:8]), math.comb(24, 12) // 13)
        self.told(orders_many(TWELVE, TWELVE, words_of("ccf" * 4 + "cff" * 4)), 1)
        self.told(orders_many([1] * 100, [1] * 100, []), math.comb(200, 100))


class OrderAt(Told):
    def refused(self, cuts, fills, words, number):
        with self.assertRaises(NoOrder) as told:
            order_at(cuts, fills, words, number)
        self.assertIs(type(told.exception), NoOrder)
        self.assertIs(type(told.exception.number), int)
        self.assertTrue(told.exception.number == number)

    def test_ordinary(self):
        self.told([order_at([1, 1], [1], [], number) for number in range(3)], ["ccf", "cfc", "fcc"])
        self.told([order_at([1, 1], [1], [("cut", 0, 0)], number) for number in range(2)], ["ccf", "cfc"])

    def test_books_of_none(self):
        self.told(order_at([], [], [], 0), "")
        self.told(order_at([3, 2], [], [], 0), "cc")
        self.told(order_at([], [3, 2], [], 0), "ff")
        for cuts, fills in ([], []), ([3, 2], []), ([], [3, 2]):
            for number in (-1, 1, 2):
                self.refused(cuts, fills, [], number)

    def test_all_small_books(self):
        for cuts, fills, words, held in GOOD:
            self.told([order_at(cuts, fills, words, number) for number in range(len(held))], held)
            for number in (-1, len(held), len(held) + 1, -len(held)):
                self.refused(cuts, fills, words, number)

    def test_any_number(self):
        for number in (-10 ** 5000, -BOUND, BOUND, 10 ** 5000):
            self.refused([1, 1], [1], [], number)

    def test_bounds(self):
        last = math.comb(24, 12) - 1
        self.told(order_at(TWELVE, TWELVE, [], 0), "c" * 12 + "f" * 12)
        self.told(order_at(TWELVE, TWELVE, [], 1), "c" * 11 + "fc" + "f" * 11)
        self.told(order_at(TWELVE, TWELVE, [], last), "f" * 12 + "c" * 12)
        self.refused(TWELVE, TWELVE, [], last + 1)
        self.refused(TWELVE, TWELVE, [], -1)


class NumberOf(Told):
    def refused(self, cuts, fills, words, order, place):
        with self.assertRaises(Against) as told:
            number_of(cuts, fills, words, order)
        self.assertIs(type(told.exception), Against)
        self.told(told.exception.place, place)

    def test_ordinary(self):
        self.told([number_of([1, 1], [1], [], order) for order in ("ccf", "cfc", "fcc")], [0, 1, 2])
        self.told(number_of([1, 1], [1], [("fill", 1, 0)], "fcc"), 1)

    def test_books_of_none(self):
        self.told(number_of([], [], [], ""), 0)
        self.told(number_of([3, 2], [], [], "cc"), 0)
        self.told(number_of([], [3, 2], [], "ff"), 0)

    def test_the_first_word_that_it_has_not(self):
        words = [("cut", 0, 0), ("cut", 0, 1), ("fill", 1, 1), ("fill", 1, 0)]
        self.refused([1, 1], [1, 1], words, "ccff", 2)
        self.refused([1, 1], [1, 1], words, "fcfc", 0)
        self.refused([1, 1], [1, 1], words, "cfcf", 2)
        self.told(number_of([1, 1], [1, 1], words, "cffc"), 0)

    def test_all_small_books(self):
        for cuts, fills, words, held in GOOD:
            for order in slow_orders(cuts, fills):
                if order in held:
                    self.told(number_of(cuts, fills, words, order), held.index(order))
                else:
                    place = [slow_has(order, word) for word in words].index(False)
                    self.refused(cuts, fills, words, order, place)

    def test_bounds(self):
        many = orders_many(TWELVE, TWELVE, TWENTY)
        self.assertGreater(many, 1)
        for words, numbers in [(TWENTY, range(many)), ([], range(0, math.comb(24, 12), 9973))]:
            orders = [order_at(TWELVE, TWELVE, words, number) for number in numbers]
            self.assertEqual(orders, sorted(set(orders)))
            self.assertEqual([number_of(TWELVE, TWELVE, words, order) for order in orders], list(numbers))
            self.assertTrue(all(is_order(TWELVE, TWELVE, order) and holds(order, words) for order in orders))
        self.refused(TWELVE, TWELVE, TWENTY, "c" * 12 + "f" * 12, 10)
        self.refused(TWELVE, TWELVE, TWENTY, "f" * 12 + "c" * 12, 0)


if __name__ == "__main__":
    unittest.main()
