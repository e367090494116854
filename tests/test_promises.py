"""What [1] (a), (b) and (g) say of winds, of orders and of two dunes."""

import itertools
import unittest

from dunebooks.almanacs import behind
from dunebooks.beside import is_below, widths
from dunebooks.between import greatest_order, least_order, may_stand
from dunebooks.orders import almanac_of, order_at, orders_many
from dunebooks.winds import blown
from samples import WORDS, slow_core, slow_held, small_almanacs, small_dunes


class Cores(unittest.TestCase):
    def test_an_almanac_does_what_its_core_does(self):
        dunes = small_dunes(3, (0, 1, 4)) + [(0, 4, 1, 3, -2)]
        for almanac in small_almanacs(3, (0, 1, 2)):
            core = slow_core(almanac)
            for dune in dunes:
                self.assertEqual(behind(dune, almanac), behind(dune, core))

    def test_a_step_of_two_posts_parts_unlike_cores(self):
        steps = [(0, number) for number in range(1, 6)]
        told = {}
        for almanac in small_almanacs(4, (0, 1, 2)):
            ends = tuple(behind(step, almanac) for step in steps)
            told.setdefault(tuple(slow_core(almanac)), set()).add(ends)
        self.assertTrue(all(len(ends) == 1 for ends in told.values()))
        self.assertEqual(len({min(ends) for ends in told.values()}), len(told))


class Orders(unittest.TestCase):
    def test_all_that_may_stand_lies_between_two_dunes_come_to_by_two_orders(self):
        dunes = small_dunes(3, (0, 2, 5)) + [(7, 0, 3, 9, 1)]
        books = [list(book) for many in range(3) for book in itertools.product((0, 1, 2), repeat=many)]
        for cuts, fills in itertools.product(books, repeat=2):
            words = [("cut", 0, len(fills) - 1)] if cuts and fills else []
            for told in ([], words):
                self.lie_between(dunes, cuts, fills, told)

    def lie_between(self, dunes, cuts, fills, words):
        orders = [order_at(cuts, fills, words, number) for number in range(orders_many(cuts, fills, words))]
        self.assertEqual(orders, slow_held(cuts, fills, words))
        ends = (least_order(cuts, fills, words), greatest_order(cuts, fills, words))
        self.assertTrue(ends[0] in orders and ends[1] in orders)
        for dune in dunes:
            least, greatest = may_stand(dune, cuts, fills, words)
            self.assertEqual((least, greatest), tuple(behind(dune, almanac_of(cuts, fills, end)) for end in ends))
            for order in orders:
                after = behind(dune, almanac_of(cuts, fills, order))
                self.assertTrue(is_below(least, after) and is_below(after, greatest))


class TwoDunes(unittest.TestCase):
    def test_never_further_apart_and_never_higher(self):
        for many in (1, 2, 3):
            dunes = list(itertools.product((0, 1, 4), repeat=many))
            for one, other in itertools.product(dunes, repeat=2):
                for wind in itertools.product(WORDS, (0, 1, 2, 3)):
                    ahead, after = widths(one, other, [wind])
                    self.assertLessEqual(after, ahead)
                    if is_below(one, other):
                        self.assertTrue(is_below(blown(one, wind), blown(other, wind)))


if __name__ == "__main__":
    unittest.main()
