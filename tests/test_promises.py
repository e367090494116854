"""What [1] (a), (b) and (g) say of winds."""

import itertools
import unittest

from dunebooks.almanacs import behind
from dunebooks.winds import blown
from samples import WORDS, slow_core, small_almanacs, small_dunes


def rows_of(cuts, fills):
    """All almanacs of two books, each book in its own order."""
    many = len(cuts) + len(fills)
    for places in itertools.combinations(range(many), len(cuts)):
        ahead_cuts, ahead_fills = iter(cuts), iter(fills)
        yield [("cut", next(ahead_cuts)) if at in places else ("fill", next(ahead_fills)) for at in range(many)]


def is_nowhere_higher(one, other):
    return all(low <= high for low, high in zip(one, other))


def width(one, other):
    return max(abs(here - there) for here, there in zip(one, other))


class Cores(unittest.TestCase):
    def test_an_almanac_does_what_its_core_does(self):
        dunes = small_dunes(3, (0, 1, 4)) + [(0, 4, 1, 3, -2)]
        for almanac in small_almanacs(3, (0, 1, 2)):
            core = slow_core(almanac)
            for dune in dunes:
                self.assertEqual(behind(dune, almanac), behind(dune, core))

    def test_a_step_of_two_posts_parts_unlike_cores(self):
        steps = [(0, number) for number in range(1, 6)]
        told = {}
        for almanac in small_almanacs(4, (0, 1, 2)):
            ends = tuple(behind(step, almanac) for step in steps)
            told.setdefault(tuple(slow_core(almanac)), set()).add(ends)
        self.assertTrue(all(len(ends) == 1 for ends in told.values()))
        self.assertEqual(len({min(ends) for ends in told.values()}), len(told))


class Orders(unittest.TestCase):
    def test_all_lies_between_all_cuts_first_and_all_fills_first(self):
        dunes = small_dunes(3, (0, 2, 5)) + [(7, 0, 3, 9, 1)]
        books = [list(book) for many in range(3) for book in itertools.product((0, 1, 2), repeat=many)]
        for cuts, fills in itertools.product(books, repeat=2):
            cut_winds, fill_winds = [("cut", slope) for slope in cuts], [("fill", slope) for slope in fills]
            for dune in dunes:
                least, greatest = behind(dune, cut_winds + fill_winds), behind(dune, fill_winds + cut_winds)
                for almanac in rows_of(cuts, fills):
                    after = behind(dune, almanac)
                    self.assertTrue(is_nowhere_higher(least, after) and is_nowhere_higher(after, greatest))


class TwoDunes(unittest.TestCase):
    def test_never_further_apart_and_never_higher(self):
        for many in (1, 2, 3):
            dunes = list(itertools.product((0, 1, 4), repeat=many))
            for one, other in itertools.product(dunes, repeat=2):
                for wind in itertools.product(WORDS, (0, 1, 2, 3)):
                    ends = blown(one, wind), blown(other, wind)
                    self.assertLessEqual(width(*ends), width(one, other))
                    if is_nowhere_higher(one, other):
                        self.assertTrue(is_nowhere_higher(*ends))


if __name__ == "__main__":
    unittest.main()
