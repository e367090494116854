import itertools
import math
import unittest

from dunebooks.errors import Astray, NoPost
from dunebooks.longbooks import done, idle_for_all, kept_by, long_many, long_may, stretches
from samples import (BOUND, WORDS, Told, least_and_greatest, slow_blown, slow_done, slow_rows, small_almanacs,
                     small_dunes)

HAND = ("hand", 0, 2)
OTHER = ("hand", 1, -3)
EACH = [("cut", 0), ("cut", 2), ("fill", 1), ("fill", 2), HAND, OTHER]
# All rows of none to four entries out of these.
ROWS = [list(row) for many in range(5) for row in itertools.product(EACH, repeat=many)]
DUNES = [(0, 5), (4, 0, 3), (0, 6, 1, 1)]


def small_books():
    """Pairs of small books that have the same hands."""
    cuts, fills = [("cut", 3), ("cut", 1), ("cut", 3)], [("fill", 2), ("fill", 2), ("fill", 0)]
    told = []
    for hands in ([], [HAND], [HAND, HAND], [OTHER, HAND]):
        for cut_many, fill_many in itertools.product(range(4), repeat=2):
            told += itertools.product(spread(cuts[:cut_many], hands), spread(fills[:fill_many], hands))
    return told


def spread(winds, hands):
    """Some ways in which a book can have its winds and hands."""
    many = len(winds) + len(hands)
    rows = list(itertools.combinations(range(many), len(hands)))
    told = []
    for row in rows[::max(1, len(rows) // 4)]:
        left, right = iter(winds), iter(hands)
        told.append([next(right) if at in row else next(left) for at in range(many)])
    return told


BOOKS = small_books()
FORTY_CUTS = [("cut", BOUND - at * 10 ** 7) for at in range(40)]
FORTY_FILLS = [("fill", BOUND - at * 10 ** 7 - 5) for at in range(40)]


class Done(Told):
    def test_ordinary(self):
        self.told(done((0, 5, 1), [("cut", 2), ("hand", 1, 4), ("fill", 3)]), (3, 6, 3))
        self.told(done((0, 5, 1), [("hand", 2, -9), ("cut", 2)]), (-4, -6, -8))

    def test_none_and_hands_alone(self):
        self.told(done((0, 5, 1), []), (0, 5, 1))
        self.told(done((7,), [("hand", 0, -7)]), (0,))
        self.told(done((0, 5, 1), [("hand", 0, 1), ("hand", 2, -4), ("hand", 0, 1)]), (2, 5, -3))

    def test_two_hands_at_one_post(self):
        self.told(done((0, 5), [("hand", 1, 3), ("hand", 1, -3)]), (0, 5))
        self.told(done((0, 5), [("hand", 1, 3), ("cut", 6), ("hand", 1, 3)]), (0, 9))

    def test_all_small_rows(self):
        for row in ROWS[::3]:
            for dune in DUNES:
                self.told(done(dune, row), slow_done(dune, row))

    def test_no_such_post(self):
        for post in (-1, -3, 3, 4, BOUND, 10 ** 30, -10 ** 30):
            self.refused(NoPost, {"post": post}, done, (0, 5, 1), [("hand", post, 1)])
            self.refused(NoPost, {"post": post}, done, (0, 5, 1), [("cut", 1), ("hand", 0, 1), ("hand", post, 1)])
        self.refused(NoPost, {"post": 1}, done, (7,), [("hand", 1, 1)])

    def test_the_first_hand_that_is_not_there(self):
        entries = [("hand", 2, 1), ("cut", 1), ("hand", 7, 1), ("hand", -1, 1), ("hand", 3, 1)]
        self.refused(NoPost, {"post": 7}, done, (0, 5, 1), entries)
        self.refused(NoPost, {"post": 3}, done, (0, 5, 1), entries[::-1])
        self.refused(NoPost, {"post": 2}, done, (0, 5), entries)

    def test_bounds(self):
        entries = [entry for pair in zip(FORTY_CUTS, FORTY_FILLS) for entry in (*pair, ("hand", 39, BOUND))]
        dune = (-BOUND, BOUND) * 20
        self.told(done(dune, entries), slow_done(dune, entries))


class KeptBy(Told):
    def test_ordinary(self):
        row = [("cut", 2), ("hand", 1, 4), ("fill", 3), ("fill", 3), ("cut", 1), ("hand", 0, -1)]
        self.told(kept_by(row, "cut"), [("cut", 2), ("hand", 1, 4), ("cut", 1), ("hand", 0, -1)])
        self.told(kept_by(row, "fill"), [("hand", 1, 4), ("fill", 3), ("fill", 3), ("hand", 0, -1)])

    def test_none_and_hands_alone(self):
        for word in WORDS:
            self.told(kept_by([], word), [])
            self.told(kept_by([HAND, OTHER, HAND], word), [HAND, OTHER, HAND])
        self.told(kept_by([("fill", 1)], "cut"), [])

    def test_small_rows(self):
        for row in ROWS:
            for word, other in (WORDS, WORDS[::-1]):
                self.told(kept_by(row, word), [entry for entry in row if entry[0] != other])


class IdleForAll(Told):
    def test_ordinary(self):
        self.told(idle_for_all([("cut", 3), ("fill", 4), ("cut", 2), ("fill", 2)]), [1, 3])
        self.told(idle_for_all([("cut", 3), ("hand", 0, 1), ("fill", 4), ("cut", 4), ("cut", 5)]), [3, 4])

    def test_none_and_hands_alone(self):
        self.told(idle_for_all([]), [])
        self.told(idle_for_all([HAND, OTHER, HAND]), [])
        self.told(idle_for_all([("cut", 0)]), [])

    def test_not_only_the_neighbour_ahead(self):
        self.told(idle_for_all([("cut", 2), ("fill", 5), ("fill", 3), ("cut", 1), ("fill", 2)]), [1, 2, 4])

    def test_a_hand_makes_all_anew(self):
        self.told(idle_for_all([("cut", 0), ("hand", 0, 1), ("cut", 0), ("hand", 0, -1), ("fill", 9)]), [])

    def test_all_small_rows(self):
        for row in ROWS:
            wanted = []
            for place, entry in enumerate(row):
                if entry[0] == "hand":
                    continue
                last = max([at for at in range(place) if row[at][0] == "hand"], default=-1)
                if any(ahead[1] <= entry[1] for ahead in row[last + 1:place]):
                    wanted.append(place)
            self.told(idle_for_all(row), wanted)

    def test_these_change_nothing_and_each_other_changes_some_dune_behind_no_hand(self):
        dunes = small_dunes(2, (0, 1, 4))
        for row in ROWS[:300] + ROWS[300::7]:
            told = idle_for_all(row)
            for place in told:
                for dune in dunes:
                    if len(dune) > 1:
                        ahead = slow_done(dune, row[:place])
                        self.assertEqual(slow_blown(ahead, row[place]), ahead)
        for row in small_almanacs(3, (0, 1, 2)):
            told = idle_for_all(row)
            for place in range(len(row)):
                changed = [dune for dune in dunes if slow_done(dune, row[:place]) != slow_done(dune, row[:place + 1])]
                self.assertEqual(changed == [], place in told)


class Stretches(Told):
    def test_ordinary(self):
        cutter = [("cut", 3), ("cut", 2), HAND, ("cut", 1), OTHER]
        filler = [HAND, ("fill", 5), ("fill", 5), OTHER, ("fill", 0)]
        self.told(stretches(cutter, filler), [([3, 2], [], HAND), ([1], [5, 5], OTHER), ([], [0], None)])

    def test_no_hands(self):
        self.told(stretches([], []), [([], [], None)])
        self.told(stretches([("cut", 3)], []), [([3], [], None)])
        self.told(stretches([], [("fill", 3), ("fill", 4)]), [([], [3, 4], None)])

    def test_hands_alone(self):
        self.told(stretches([HAND, HAND], [HAND, HAND]), [([], [], HAND), ([], [], HAND), ([], [], None)])

    def test_books_of_small_rows(self):
        for row in ROWS:
            wanted = [([], [], None)]
            for entry in row:
                if entry[0] == "hand":
                    wanted[-1] = wanted[-1][:2] + (entry,)
                    wanted.append(([], [], None))
                else:
                    wanted[-1][WORDS.index(entry[0])].append(entry[1])
            self.told(stretches(kept_by(row, "cut"), kept_by(row, "fill")), wanted)

    def test_lists_for_entries(self):
        self.told(stretches([["hand", 0, 2], ["cut", 1]], (("hand", 0, 2),)), [([], [], HAND), ([1], [], None)])

    def test_no_two_told_lists_are_one(self):
        told = stretches([HAND, HAND, HAND], [HAND, HAND, HAND])
        lists = [part for row in told for part in row[:2]]
        self.assertEqual(len({id(part) for part in lists}), 8)

    def test_bounds(self):
        told = stretches(FORTY_CUTS, FORTY_FILLS)
        self.told(told, [([slope for word, slope in FORTY_CUTS], [slope for word, slope in FORTY_FILLS], None)])
        self.told(stretches([HAND] * 40, [HAND] * 40), [([], [], HAND)] * 40 + [([], [], None)])


ASTRAY = [
    ([HAND], [], 0),
    ([], [HAND], 0),
    ([HAND, ("cut", 1)], [("fill", 1)], 0),
    ([HAND], [OTHER], 0),
    ([HAND], [("hand", 0, 3)], 0),
    ([HAND], [("hand", 1, 2)], 0),
    ([("hand", 0, -2)], [HAND], 0),
    ([HAND, OTHER], [HAND], 1),
    ([HAND], [HAND, HAND], 1),
    ([HAND, HAND], [HAND, HAND, ("fill", 3), OTHER], 2),
    ([("cut", 3), HAND, ("cut", 2), OTHER], [HAND, ("fill", 9), HAND], 1),
    ([HAND, OTHER], [OTHER, HAND], 0),
    ([HAND, OTHER, HAND], [HAND, HAND, OTHER], 1),
    ([("hand", 9, 1)], [("hand", 9, 2)], 0),
    ([("hand", 9, 1), HAND], [("hand", 9, 1)], 1),
]


class AstrayOnes(Told):
    def test_each_asks_for_the_same_hands(self):
        for cutter, filler, number in ASTRAY:
            self.refused(Astray, {"number": number}, stretches, cutter, filler)
            self.refused(Astray, {"number": number}, long_many, cutter, filler)
            self.refused(Astray, {"number": number}, long_may, (0, 5, 1), cutter, filler)

    def test_all_small_hands(self):
        rows = [list(row) for many in range(4) for row in itertools.product((HAND, OTHER), repeat=many)]
        for one, other in itertools.product(rows, repeat=2):
            if one != other:
                pairs = itertools.zip_longest(one, other)
                number = next(at for at, (here, there) in enumerate(pairs) if here != there)
                self.refused(Astray, {"number": number}, stretches, one + [("cut", 3)], [("fill", 2)] + other)

    def test_then_no_post(self):
        for post in (-1, 3, 10 ** 30):
            hand = ("hand", post, 1)
            self.refused(NoPost, {"post": post}, long_may, (0, 5, 1), [("cut", 0), HAND, hand], [HAND, hand])
            self.refused(Astray, {"number": 2}, long_may, (0, 5, 1), [HAND, hand], [HAND, hand, HAND])
        books = [("hand", 1, 1), ("hand", 8, 1), ("hand", -2, 1)]
        self.refused(NoPost, {"post": 8}, long_may, (0, 5, 1), books, books)
        # Where the posts aren't asked for, any are good.
        self.told(long_many(books, books), 1)
        self.assertEqual(len(stretches(books, books)), 4)


class LongMay(Told):
    def test_ordinary(self):
        self.told(long_may((0, 4), [("cut", 1)], [("fill", 0)]), ((1, 1), (4, 4)))
        self.told(long_may((0, 4), [("cut", 1), HAND], [HAND, ("fill", 0)]), ((2, 2), (2, 2)))
        self.told(long_may((0, 4), [("cut", 1), HAND, ("cut", 0)], [("fill", 0), HAND, ("fill", 1)]),
                  ((1, 1), (5, 5)))

    def test_none_and_hands_alone(self):
        self.told(long_may((0, 4), [], []), ((0, 4), (0, 4)))
        self.told(long_may((0, 4), [HAND, OTHER], [HAND, OTHER]), ((2, 1), (2, 1)))
        self.told(long_may((7,), [("cut", 0), HAND], [("fill", 0), HAND]), ((9,), (9,)))

    def test_one_keeper_alone(self):
        self.told(long_may((0, 4), [("cut", 1), HAND, ("cut", 0)], [HAND]), ((1, 1), (1, 1)))
        self.told(long_may((0, 4), [HAND], [("fill", 3), HAND, ("fill", 0)]), ((4, 4), (4, 4)))

    def test_all_lies_between_and_both_ends_are_come_to(self):
        seen = set()
        for cutter, filler in BOOKS:
            rows = slow_rows(cutter, filler)
            for dune in DUNES:
                ends = [slow_done(dune, row) for row in rows]
                wanted = least_and_greatest(ends)
                self.told(long_may(dune, cutter, filler), wanted)
                self.assertTrue(wanted[0] in ends and wanted[1] in ends)
                seen.add(wanted[0] == wanted[1])
        self.assertEqual(seen, {True, False})

    def test_bounds(self):
        dune = (-BOUND, BOUND) * 20
        least, greatest = long_may(dune, FORTY_CUTS, FORTY_FILLS)
        self.told(least, slow_done(dune, FORTY_CUTS + FORTY_FILLS))
        self.told(greatest, slow_done(dune, FORTY_FILLS + FORTY_CUTS))
        cutter = [entry for wind in FORTY_CUTS[:20] for entry in (wind, ("hand", 39, BOUND))]
        filler = [entry for wind in FORTY_FILLS[:20] for entry in (wind, ("hand", 39, BOUND))]
        pairs = list(zip(cutter, filler))
        rows = [[entry for pair in pairs for entry in ([pair[0]] if pair[0][0] == "hand" else pair[::step])]
                for step in (1, -1)]
        self.told(long_may(dune, cutter, filler), (slow_done(dune, rows[0]), slow_done(dune, rows[1])))


class LongMany(Told):
    def test_ordinary(self):
        self.told(long_many([("cut", 3), ("cut", 2)], [("fill", 1)]), 3)
        self.told(long_many([("cut", 3), HAND, ("cut", 2)], [("fill", 1), HAND, ("fill", 1), ("fill", 0)]), 6)

    def test_alike_slopes_are_told_apart(self):
        self.told(long_many([("cut", 3), ("cut", 3)], [("fill", 3), ("fill", 3)]), 6)

    def test_none_and_hands_alone(self):
        self.told(long_many([], []), 1)
        self.told(long_many([HAND, OTHER], [HAND, OTHER]), 1)
        self.told(long_many([("cut", 3)] * 5, []), 1)
        self.told(long_many([HAND], [("fill", 3), HAND, ("fill", 3)]), 1)

    def test_by_going_through_all_rows(self):
        for cutter, filler in BOOKS:
            self.told(long_many(cutter, filler), len(slow_rows(cutter, filler)))

    def test_by_going_through_all_rows_of_places(self):
        # Each wind with its place, so that alike ones are told apart.
        for cutter, filler in [([("cut", 1), HAND, ("cut", 1)], [("fill", 1), HAND, ("fill", 1)]),
                               ([("cut", 1), ("cut", 1)], [("fill", 1), ("fill", 1)]),
                               ([HAND, ("cut", 1), HAND], [HAND, ("fill", 2), HAND])]:
            hands = [("hand", at) for at in range(sum(entry[0] == "hand" for entry in cutter))]
            books = [self.placed(book) for book in (cutter, filler)]
            each = [entry for book in books for entry in book if entry[0] != "hand"] + hands
            rows = [row for row in itertools.permutations(each)
                    if [entry for entry in row if entry in books[0]] == books[0]
                    and [entry for entry in row if entry in books[1]] == books[1]]
            self.told(long_many(cutter, filler), len(rows))

    def placed(self, book):
        """Each wind of a book by its word and place, each hand by its number."""
        hands = itertools.count()
        return [("hand", next(hands)) if entry[0] == "hand" else (entry[0], at) for at, entry in enumerate(book)]

    def test_bounds(self):
        self.told(long_many(FORTY_CUTS, FORTY_FILLS), math.comb(80, 40))
        cutter = FORTY_CUTS[:13] + [HAND] + FORTY_CUTS[:13] + [OTHER] + FORTY_CUTS[:12]
        filler = FORTY_FILLS[:20] + [HAND] + FORTY_FILLS[:18] + [OTHER]
        self.told(long_many(cutter, filler), math.comb(33, 13) * math.comb(31, 13))


if __name__ == "__main__":
    unittest.main()
