"""What [1] (a) to (h) say, of the whole program."""

import itertools
import unittest

from dunebooks.almanacs import behind
from dunebooks.beside import is_below, widths
from dunebooks.between import greatest_order, least_order, may_stand
from dunebooks.bookcores import cores_all, cores_many, ends_all, order_for
from dunebooks.cores import alike, core, parting, shows_parting
from dunebooks.longbooks import done, kept_by, long_many, long_may
from dunebooks.orders import almanac_of, order_at, orders_many
from dunebooks.plays import best_play, held, shows_least, shows_most
from dunebooks.sure import fewest_words, is_enough
from dunebooks.torn import fits_torn, slopes_for
from dunebooks.winds import blown
from dunebooks.yard import Yard
from samples import (WORDS, slow_almanac, slow_core, slow_held, slow_orders, slow_rows, small_almanacs, small_dunes,
                     words_of)


class Cores(unittest.TestCase):
    def test_an_almanac_does_what_its_core_does(self):
        dunes = small_dunes(3, (0, 1, 4)) + [(0, 4, 1, 3, -2)]
        for almanac in small_almanacs(3, (0, 1, 2)):
            self.assertEqual(core(almanac), slow_core(almanac))
            for dune in dunes:
                self.assertEqual(behind(dune, almanac), behind(dune, core(almanac)))

    def test_a_step_of_two_posts_parts_unlike_cores(self):
        steps = [(0, number) for number in range(1, 6)]
        told = {}
        for almanac in small_almanacs(4, (0, 1, 2)):
            ends = tuple(behind(step, almanac) for step in steps)
            told.setdefault(tuple(slow_core(almanac)), set()).add(ends)
        self.assertTrue(all(len(ends) == 1 for ends in told.values()))
        self.assertEqual(len({min(ends) for ends in told.values()}), len(told))

    def test_the_least_step_that_parts_them_is_told(self):
        almanacs = small_almanacs(4, (0, 1, 3))
        for one, other in zip(almanacs, almanacs[7::3] + almanacs[::-1]):
            step = parting(one, other)
            self.assertEqual(alike(one, other), core(one) == core(other))
            self.assertEqual(step is None, alike(one, other))
            shown = [number for number in range(1, 9) if shows_parting(one, other, number)]
            self.assertEqual(shown[:1], [] if step is None else [step])


class Orders(unittest.TestCase):
    def test_all_that_may_stand_lies_between_two_dunes_come_to_by_two_orders(self):
        dunes = small_dunes(3, (0, 2, 5)) + [(7, 0, 3, 9, 1)]
        books = [list(book) for many in range(3) for book in itertools.product((0, 1, 2), repeat=many)]
        for cuts, fills in itertools.product(books, repeat=2):
            words = [("cut", 0, len(fills) - 1)] if cuts and fills else []
            for told in ([], words):
                self.lie_between(dunes, cuts, fills, told)

    def lie_between(self, dunes, cuts, fills, words):
        orders = [order_at(cuts, fills, words, number) for number in range(orders_many(cuts, fills, words))]
        self.assertEqual(orders, slow_held(cuts, fills, words))
        ends = (least_order(cuts, fills, words), greatest_order(cuts, fills, words))
        self.assertTrue(ends[0] in orders and ends[1] in orders)
        for dune in dunes:
            least, greatest = may_stand(dune, cuts, fills, words)
            self.assertEqual((least, greatest), tuple(behind(dune, almanac_of(cuts, fills, end)) for end in ends))
            for order in orders:
                after = behind(dune, almanac_of(cuts, fills, order))
                self.assertTrue(is_below(least, after) and is_below(after, greatest))


class BookCores(unittest.TestCase):
    def test_each_core_and_an_order_for_it_is_told_and_how_many_there_are(self):
        books = [list(book) for many in range(4) for book in itertools.product((0, 2, 3), repeat=many)]
        for cuts, fills in zip(books * 3, books[5:] + books[::-1] + books[::2]):
            wanted = {}
            for order in slow_orders(cuts, fills):
                wanted.setdefault(str(slow_core(slow_almanac(cuts, fills, order))), order)
            told = cores_all(cuts, fills)
            self.assertEqual((cores_many(cuts, fills), len(told)), (len(wanted), len(wanted)))
            self.assertEqual({str(each): order_for(cuts, fills, each) for each in told}, wanted)

    def test_unlike_cores_part_some_step(self):
        for cuts, fills in [([7, 5, 3], [6, 4, 2]), ([3, 2, 1], [3, 2, 1]), ([5, 2], [5, 4, 1, 0])]:
            steps = [ends_all((0, step), cuts, fills) for step in range(1, 10)]
            self.assertLessEqual(max(len(ends) for ends in steps), cores_many(cuts, fills))
            told = cores_all(cuts, fills)
            ends = {tuple(behind((0, step), each) for step in range(1, 10)) for each in told}
            self.assertEqual(len(ends), len(told))


class FewestWords(unittest.TestCase):
    def test_they_make_all_sure_and_no_fewer_words_of_the_order_do(self):
        for cuts, fills in [([3, 1], [2, 0]), ([4, 2, 0], [3, 1]), ([1, 1], [1, 1])]:
            for dune, order in itertools.product([(0, 9), (5, 0, 3), (1, 1)], slow_orders(cuts, fills)):
                words = fewest_words(dune, cuts, fills, order)
                self.assertTrue(is_enough(dune, cuts, fills, words))
                for fewer in itertools.combinations(words_of(order), max(0, len(words) - 1)):
                    self.assertTrue(words == [] or not is_enough(dune, cuts, fills, list(fewer)))


class Yards(unittest.TestCase):
    def test_a_yard_tells_what_one_made_anew_tells(self):
        each = [("cut", 3), ("fill", 1), ("hand", 1, 4), ("hand", 5, 1), ("cut", 0), None]
        for row in itertools.product(each, repeat=4):
            yard = Yard((0, 6, 2))
            for entry in row:
                try:
                    yard.do([("fill", 2), entry]) if entry else yard.undo()
                except LookupError:
                    self.assertEqual(entry, ("hand", 5, 1))
            anew = Yard(yard.first())
            anew.do(yard.entries())
            self.assertEqual((yard.dune(), yard.may(), yard.is_sure()), (anew.dune(), anew.may(), anew.is_sure()))
            self.assertEqual(yard.dune(), done((0, 6, 2), yard.entries()))
            self.assertNotIn(("hand", 5, 1), yard.entries())


class Games(unittest.TestCase):
    def test_both_hands_plays_show_each_height_and_judges_see_that(self):
        for dune in small_dunes(3, (0, 2, 5)) + [(6, 0, 1, 9, 3)]:
            for almanac in small_almanacs(2, (0, 1, 3)):
                after = behind(dune, almanac)
                cuts, fills = (best_play(dune, almanac, word) for word in WORDS)
                self.assertEqual((held(dune, almanac, "cut", cuts), held(dune, almanac, "fill", fills)), (after, after))
                for post, height in enumerate(after):
                    self.assertIs(shows_most(dune, almanac, post, height, cuts), True)
                    self.assertIs(shows_least(dune, almanac, post, height, fills), True)
                    self.assertIs(shows_most(dune, almanac, post, height - 1, cuts), False)
                    self.assertIs(shows_least(dune, almanac, post, height + 1, fills), False)


class TornPages(unittest.TestCase):
    def test_the_slopes_are_a_stretch_or_none(self):
        for dune in small_dunes(3, (0, 5)) + [(6, 0, 1, 9, 3)]:
            for ahead, later in zip(small_almanacs(2, (1, 4)), small_almanacs(2, (0, 3))[::-1]):
                for word in WORDS:
                    ends = [behind(dune, ahead + [(word, slope)] + later) for slope in range(12)]
                    for told in ends:
                        least, greatest = slopes_for(dune, ahead, word, later, told)
                        fitting = [slope for slope in range(12) if ends[slope] == told]
                        last = 11 if greatest is None else greatest
                        self.assertEqual(fitting, list(range(least, last + 1)))
                        self.assertIn(word, fits_torn(dune, ahead, later, told))


class LongBooks(unittest.TestCase):
    def test_what_both_keepers_books_leave_open(self):
        row = [("fill", 2), ("cut", 4), ("hand", 1, 3), ("cut", 1), ("fill", 1), ("hand", 0, -2), ("fill", 0), ("cut", 2)]
        for many in range(len(row) + 1):
            books = (kept_by(row[:many], "cut"), kept_by(row[:many], "fill"))
            rows = slow_rows(*books)
            self.assertEqual(len(rows), long_many(*books))
            for dune in [(0, 7), (4, 0, 3), (0, 9, 0, 5)]:
                least, greatest = long_may(dune, *books)
                for each in rows:
                    self.assertTrue(is_below(least, done(dune, each)) and is_below(done(dune, each), greatest))


class TwoDunes(unittest.TestCase):
    def test_never_further_apart_and_never_higher(self):
        for many in (1, 2, 3):
            dunes = list(itertools.product((0, 1, 4), repeat=many))
            for one, other in itertools.product(dunes, repeat=2):
                for wind in itertools.product(WORDS, (0, 1, 2, 3)):
                    ahead, after = widths(one, other, [wind])
                    self.assertLessEqual(after, ahead)
                    if is_below(one, other):
                        self.assertTrue(is_below(blown(one, wind), blown(other, wind)))


if __name__ == "__main__":
    unittest.main()
