"""Once through the whole: one yard, and all that the document says of its entries."""

import unittest

from dunebooks.almanacs import amounts, behind, can_stand, idle_in
from dunebooks.between import greatest_order, least_order, may_stand, sure_posts
from dunebooks.beside import is_below, widths
from dunebooks.bookcores import cores_all, cores_many, ends_all, order_for, order_to
from dunebooks.cores import alike, core, is_core, parting, shows_parting
from dunebooks.desk import answers
from dunebooks.dunes import is_dune, sand, steepest
from dunebooks.longbooks import done, idle_for_all, kept_by, long_many, long_may, stretches
from dunebooks.orders import almanac_of, books_of, holds, is_order, number_of, order_at, order_of, orders_many
from dunebooks.plays import best_play, held, shows_least, shows_most
from dunebooks.sure import corners, fewest_words, is_enough
from dunebooks.texts import almanac_in, almanac_text, dune_in, dune_text
from dunebooks.torn import fits_torn, slopes_for
from dunebooks.yard import Yard
from samples import WORDS, Told, slow_behind, slow_orders, spread_numbers


def made_yard(seed):
    """A yard with a row of winds behind it, some undone, some refused."""
    numbers = spread_numbers(seed, 20, 9)
    yard = Yard(numbers[:5])
    for turn, number in enumerate(numbers[5:14]):
        yard.blow(WORDS[(number + turn) % 2], number)
        if number == 3:
            yard.undo()
    yard.do([("cut", 6), ("fill", 5)])
    return yard


class Whole(Told):
    def setUp(self):
        self.yards = [made_yard(seed) for seed in range(12)]

    def test_entries_as_an_almanac_and_its_text(self):
        for yard in self.yards:
            almanac, dune = yard.entries(), yard.first()
            self.told(yard.dune(), behind(dune, almanac))
            self.told(yard.dune(), slow_behind(dune, almanac))
            self.told(almanac_in(almanac_text(almanac)), almanac)
            self.told(dune_in(dune_text(dune)), dune)
            self.assertTrue(is_dune(yard.dune()) and can_stand(yard.dune(), almanac))
            self.assertTrue(set(idle_for_all(almanac)) <= set(idle_in(dune, almanac)))
            moved = sum(brought - taken for taken, brought in amounts(dune, almanac))
            self.told(sand(dune) + moved, sand(yard.dune()))
            anew = Yard(dune)
            self.told(anew.do(almanac), amounts(dune, almanac))
            self.assertEqual(anew, yard)

    def test_a_desk_told_the_same_rows(self):
        for yard in self.yards:
            least, greatest = yard.may()
            rows = ["dune " + dune_text(yard.first())] + [f"{word} {slope}" for word, slope in yard.entries()]
            told = answers("\n".join(rows + ["dune", "sand", "steepest", "core", "may", "sure", "many"]))
            many = len(yard.entries())
            self.told(told[:many], [str(max(pair)) for pair in amounts(yard.first(), yard.entries())])
            self.told(told[many:], [
                dune_text(yard.dune()), str(sand(yard.dune())), str(steepest(yard.dune())),
                almanac_text(core(yard.entries())), f"{dune_text(least)} / {dune_text(greatest)}",
                "yes" if yard.is_sure() else "no", str(long_many(yard.kept_by("cut"), yard.kept_by("fill")))])

    def test_both_books_and_their_order(self):
        for yard in self.yards:
            almanac, dune = yard.entries(), yard.first()
            (cuts, fills), order = books_of(almanac), order_of(almanac)
            self.assertTrue(is_order(cuts, fills, order))
            self.told(almanac_of(cuts, fills, order), almanac)
            self.told(stretches(yard.kept_by("cut"), yard.kept_by("fill")), [(cuts, fills, None)])
            number = number_of(cuts, fills, [], order)
            self.told(order_at(cuts, fills, [], number), order)
            self.told(orders_many(cuts, fills, []), long_many(yard.kept_by("cut"), yard.kept_by("fill")))
            self.told(may_stand(dune, cuts, fills, []), yard.may())
            self.told(long_may(dune, kept_by(almanac, "cut"), kept_by(almanac, "fill")), yard.may())
            self.told(is_enough(dune, cuts, fills, []), yard.is_sure())

    def test_what_may_stand_without_words_and_with_the_fewest(self):
        for yard in self.yards:
            (cuts, fills), order, dune = books_of(yard.entries()), order_of(yard.entries()), yard.first()
            least, greatest = may_stand(dune, cuts, fills, [])
            self.assertTrue(is_below(least, yard.dune()) and is_below(yard.dune(), greatest))
            words = fewest_words(dune, cuts, fills, order)
            self.assertTrue(holds(order, words) and is_enough(dune, cuts, fills, words))
            self.told(may_stand(dune, cuts, fills, words), (yard.dune(), yard.dune()))
            self.told(sure_posts(dune, cuts, fills, words), list(range(len(yard))))
            self.told((least_order(cuts, fills, corners(order)), greatest_order(cuts, fills, corners(order))),
                      (order, order))
            self.told(words == [], yard.is_sure())

    def test_the_core(self):
        for yard in self.yards:
            almanac, dune = yard.entries(), yard.first()
            (cuts, fills), short = books_of(almanac), core(almanac)
            self.assertTrue(is_core(short) and alike(short, almanac) and parting(short, almanac) is None)
            self.told(behind(dune, short), yard.dune())
            for at in range(len(short)):
                less = short[:at] + short[at + 1:]
                self.assertTrue(shows_parting(short, less, parting(short, less)))
            cores = cores_all(cuts, fills)
            self.assertEqual((len(cores), cores), (cores_many(cuts, fills), sorted(cores)))
            self.assertIn(short, cores)
            first = order_for(cuts, fills, short)
            self.told(core(almanac_of(cuts, fills, first)), short)
            self.assertLessEqual(first, order_of(almanac))
            self.assertLessEqual(order_to(dune, cuts, fills, yard.dune()), first)
            self.told(ends_all(dune, cuts, fills), sorted({behind(dune, each) for each in cores}))

    def test_torn_pages(self):
        for yard in self.yards:
            almanac, dune = yard.entries(), yard.first()
            for at, (word, slope) in enumerate(almanac):
                least, greatest = slopes_for(dune, almanac[:at], word, almanac[at + 1:], yard.dune())
                self.assertTrue(least <= slope and (greatest is None or slope <= greatest))
                self.assertIn(word, fits_torn(dune, almanac[:at], almanac[at + 1:], yard.dune()))
                for other in (least, least + 1 if greatest is None else greatest):
                    self.told(behind(dune, almanac[:at] + [(word, other)] + almanac[at + 1:]), yard.dune())

    def test_best_plays(self):
        for yard in self.yards:
            almanac, dune = yard.entries(), yard.first()
            for word, shows in (("cut", shows_most), ("fill", shows_least)):
                play = best_play(dune, almanac, word)
                self.told(held(dune, almanac, word, play), yard.dune())
                for post, height in enumerate(yard.dune()):
                    self.assertIs(shows(dune, almanac, post, height, play), True)

    def test_two_dunes(self):
        for one, other in zip(self.yards, self.yards[1:]):
            told = widths(one.first(), other.first(), one.entries())
            self.told(told, sorted(told, reverse=True))

    def test_hands_in_both_books(self):
        for yard in self.yards:
            before = (yard.dune(), yard.may(), yard.entries())
            yard.hand(2, 6)
            yard.do([("fill", 1), ("cut", 1), ("hand", 0, -9), ("cut", 0)])
            entries = yard.entries()
            self.told(yard.dune(), done(yard.first(), entries))
            self.told(len(stretches(yard.kept_by("cut"), yard.kept_by("fill"))), 3)
            least, greatest = yard.may()
            self.assertTrue(is_below(least, yard.dune()) and is_below(yard.dune(), greatest))
            self.told(yard.as_of(yard.deeds() - 2).entries(), before[2])
            yard.undo()
            yard.undo()
            self.told((yard.dune(), yard.may(), yard.entries()), before)

    def test_a_small_yard_by_going_through_all_orders(self):
        yard = Yard((0, 9, 2))
        self.told(yard.do([("cut", 6), ("fill", 4), ("cut", 2), ("fill", 1)]), [(3, 0), (0, 2), (2, 0), (0, 2)])
        (cuts, fills), dune = books_of(yard.entries()), yard.first()
        ends = {order: slow_behind(dune, almanac_of(cuts, fills, order)) for order in slow_orders(cuts, fills)}
        self.told(sorted(set(ends.values())), ends_all(dune, cuts, fills))
        for end in ends.values():
            self.told(order_to(dune, cuts, fills, end), min(order for order in ends if ends[order] == end))


if __name__ == "__main__":
    unittest.main()
