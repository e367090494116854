import itertools
import unittest

from dunebooks.almanacs import behind
from dunebooks.plays import best_play, held, shows_least, shows_most
from samples import (BOUND, WORDS, Told, otherwise, slow_behind, slow_blown, slow_given, slow_sources, small_almanacs,
                     small_dunes, strange_things)

DUNES = small_dunes(2, (0, 2, 5)) + [(0, 4, 1), (3, 3, 0)]
ALMANACS = small_almanacs(2, (0, 1, 3))
CASES = [(dune, almanac) for dune in DUNES for almanac in ALMANACS]
WIDE = (-BOUND, BOUND, BOUND, 0) * 10
LONG = [(WORDS[at % 2], (30 - at) * (BOUND // 30)) for at in range(30)]


def all_plays(dune, almanac, word):
    """Each play of a word for an almanac."""
    rows = list(itertools.product(range(len(dune)), repeat=len(dune)))
    moves = [rows if wind[0] == word else [()] for wind in almanac]
    return [list(play) for play in itertools.product(*moves)]


def slow_held(dune, almanac, word, play):
    """What posts come to by a play, done slowly."""
    for wind, posts in zip(almanac, play):
        if wind[0] == word:
            dune = tuple([slow_given(dune, wind, post)[source] for post, source in enumerate(posts)])
        else:
            dune = slow_blown(dune, wind)
    return dune


def is_row(dune, thing):
    return type(thing) is tuple and len(thing) == len(dune) and all(
        type(post) is int and post in range(len(dune)) for post in thing)


def is_play(dune, almanac, word, thing):
    """Whether a thing is a play, of just the kinds that the document tells."""
    if type(thing) is not list or len(thing) != len(almanac):
        return False
    return all(is_row(dune, part) if wind[0] == word else type(part) is tuple and part == ()
               for wind, part in zip(almanac, thing))


class Held(Told):
    def test_ordinary(self):
        self.told(held((0, 5, 1), [("cut", 2)], "cut", [(0, 0, 2)]), (0, 2, 1))
        self.told(held((0, 5, 1), [("cut", 2)], "cut", [(1, 2, 0)]), (7, 3, 4))
        self.told(held((0, 5, 1), [("fill", 2)], "fill", [(1, 2, 0)]), (3, -1, -4))

    def test_winds_of_the_other_word_blow(self):
        self.told(held((0, 5, 1), [("fill", 2)], "cut", [()]), (3, 5, 3))
        self.told(held((0, 5, 1), [("fill", 2), ("cut", 0)], "cut", [(), (1, 1, 1)]), (5, 5, 5))
        self.told(held((0, 5, 1), [("cut", 2), ("fill", 1)], "fill", [(), (0, 0, 0)]), (0, -1, -2))

    def test_no_winds(self):
        for word in WORDS:
            self.told(held((0, 5, 1), [], word, []), (0, 5, 1))

    def test_one_post(self):
        for word in WORDS:
            self.told(held((7,), [(word, 3), (word, 0)], word, [(0,), (0,)]), (7,))

    def test_slope_0(self):
        self.told(held((0, 5, 1), [("cut", 0)], "cut", [(1, 1, 1)]), (5, 5, 5))
        self.told(held((0, 5, 1), [("fill", 0)], "fill", [(0, 2, 0)]), (0, 1, 0))

    def test_all_small_plays(self):
        for dune, almanac in CASES:
            for word in WORDS:
                for play in all_plays(dune, almanac, word)[:90]:
                    self.told(held(dune, almanac, word, play), slow_held(dune, almanac, word, play))

    def test_bounds(self):
        for word in WORDS:
            play = [tuple([(at * 7) % 40 for at in range(40)]) if wind[0] == word else () for wind in LONG]
            self.told(held(WIDE, LONG, word, play), slow_held(WIDE, LONG, word, play))


class Worths(Told):
    def test_the_least_of_all_plays_of_cuts_and_the_greatest_of_fills_are_the_heights(self):
        for dune, almanac in CASES:
            wanted = slow_behind(dune, almanac)
            for word, best in (("cut", min), ("fill", max)):
                ends = [held(dune, almanac, word, play) for play in all_plays(dune, almanac, word)]
                self.assertEqual(tuple([best(column) for column in zip(*ends)]), wanted)
                self.assertIn(wanted, ends)

    def test_three_winds_of_two_posts(self):
        for almanac in small_almanacs(3, (0, 2))[21:]:
            for dune in ((0, 5), (3, -1)):
                wanted = slow_behind(dune, almanac)
                for word, best in (("cut", min), ("fill", max)):
                    ends = [held(dune, almanac, word, play) for play in all_plays(dune, almanac, word)]
                    self.assertEqual(tuple([best(column) for column in zip(*ends)]), wanted)


class BestPlay(Told):
    def test_ordinary(self):
        self.told(best_play((0, 5, 1), [("cut", 2)], "cut"), [(0, 0, 2)])
        self.told(best_play((0, 5, 1), [("fill", 2)], "fill"), [(1, 1, 1)])
        self.told(best_play((0, 5, 1), [("cut", 2), ("fill", 0), ("cut", 1)], "cut"), [(0, 0, 2), (), (0, 1, 2)])

    def test_almanacs_without_a_wind_of_the_word(self):
        self.told(best_play((0, 5, 1), [], "cut"), [])
        self.told(best_play((0, 5, 1), [("fill", 2)], "cut"), [()])
        self.told(best_play((0, 5, 1), [("cut", 2), ("cut", 1)], "fill"), [(), ()])

    def test_first_of_several(self):
        self.told(best_play((0, 3, 0), [("cut", 1)], "cut"), [(0, 0, 2)])
        self.told(best_play((4, 4, 4), [("cut", 0), ("fill", 0)], "cut"), [(0, 0, 0), ()])
        self.told(best_play((4, 4, 4), [("cut", 0), ("fill", 0)], "fill"), [(), (0, 0, 0)])

    def test_one_post(self):
        self.told(best_play((7,), [("cut", 0), ("fill", 3), ("cut", 2)], "cut"), [(0,), (), (0,)])

    def test_small_ones(self):
        for dune, almanac in CASES:
            for word in WORDS:
                wanted, now = [], dune
                for wind in almanac:
                    first = tuple([row[0] for row in slow_sources(now, wind)])
                    wanted.append(first if wind[0] == word else ())
                    now = slow_blown(now, wind)
                self.told(best_play(dune, almanac, word), wanted)

    def test_comes_to_the_heights_behind_each_wind(self):
        for dune, almanac in CASES + [(WIDE, LONG)]:
            for word in WORDS:
                play = best_play(dune, almanac, word)
                for many in range(len(almanac) + 1):
                    self.told(held(dune, almanac[:many], word, play[:many]), slow_behind(dune, almanac[:many]))


class Shows(Told):
    judges = [(shows_most, "cut", 1), (shows_least, "fill", -1)]

    def wanted(self, dune, almanac, word, post, height, thing, sign):
        """Whether a judge must tell True, by the document's words."""
        if not is_play(dune, almanac, word, thing):
            return False
        return sign * slow_held(dune, almanac, word, thing)[post] <= sign * height

    def test_ordinary(self):
        dune, almanac = (0, 5, 1), [("cut", 2), ("fill", 1)]
        self.assertEqual(behind(dune, almanac), (1, 2, 1))
        self.told([shows_most(dune, almanac, 1, height, [(0, 0, 2), ()]) for height in (1, 2, 3)], [False, True, True])
        self.told([shows_least(dune, almanac, 0, height, [(), (1, 1, 1)]) for height in (0, 1, 2)],
                  [True, True, False])

    def test_best_plays_show_the_heights_and_none_shows_more(self):
        for dune, almanac in CASES:
            after = slow_behind(dune, almanac)
            for shows, word, sign in self.judges:
                play = best_play(dune, almanac, word)
                for post, height in enumerate(after):
                    self.assertIs(shows(dune, almanac, post, height, play), True)
                    self.assertIs(shows(dune, almanac, post, height + sign, play), True)
                    told = [shows(dune, almanac, post, height - sign, other)
                            for other in all_plays(dune, almanac, word)[:90]]
                    self.assertNotIn(True, told)

    def test_all_small_plays(self):
        for dune, almanac in [((0, 5), [("cut", 1), ("fill", 0), ("cut", 0)]), ((0, 4, 1), [("fill", 2), ("cut", 1)]),
                              ((6,), [("cut", 1), ("fill", 1)]), ((3, 0), [])]:
            for shows, word, sign in self.judges:
                for play in all_plays(dune, almanac, word):
                    for post, height in itertools.product(range(len(dune)), range(-3, 9)):
                        wanted = self.wanted(dune, almanac, word, post, height, play, sign)
                        self.assertIs(shows(dune, almanac, post, height, play), wanted)

    def test_one_part_otherwise(self):
        seen = {True: 0, False: 0}
        for dune, almanac in [((0, 5, 1), [("cut", 2), ("fill", 1), ("cut", 1)]), ((0, 2), [("fill", 1), ("cut", 0)]),
                              ((4,), [("cut", 1), ("fill", 1)]), ((1, 0), [])]:
            for shows, word, sign in self.judges:
                play = best_play(dune, almanac, word)
                for thing in otherwise(play):
                    for post, height in itertools.product(range(len(dune)), (-9, 0, 2, 9)):
                        wanted = self.wanted(dune, almanac, word, post, height, thing, sign)
                        self.assertIs(shows(dune, almanac, post, height, thing), wanted, thing)
                        seen[wanted] += 1
        self.assertTrue(min(seen.values()) > 100, seen)

    def test_plays_of_the_other_word(self):
        dune, almanac = (0, 5), [("cut", 1), ("fill", 0)]
        self.assertIs(shows_most(dune, almanac, 0, 99, best_play(dune, almanac, "fill")), False)
        self.assertIs(shows_least(dune, almanac, 0, -99, best_play(dune, almanac, "cut")), False)

    def test_rows_where_none_must_stand_and_none_where_rows_must(self):
        dune, almanac = (0, 5), [("cut", 1), ("fill", 0)]
        for thing in [[(0, 0), (0, 0)], [(), ()], [(), (0, 0)], [(0, 0)], [(0, 0), (), ()], [(0, 0), []], [(0, 0), None],
                      [[0, 0], ()], ((0, 0), ()), [(0,), ()], [(0, 0, 0), ()], [(0, 2), ()], [(0, -1), ()],
                      [(0, True), ()], [(False, 0), ()], [("0", 0), ()], [((0,), 0), ()]]:
            self.assertIs(shows_most(dune, almanac, 0, 99, thing), False, thing)
        self.assertIs(shows_most(dune, almanac, 0, 99, [(0, 0), ()]), True)

    def test_no_winds(self):
        for shows, word, sign in self.judges:
            self.told([shows((0, 5), [], 1, height, []) for height in (5 - sign, 5, 5 + sign)], [False, True, True])
            for thing in [(), None, [()], False, [[]], ""]:
                self.assertIs(shows((0, 5), [], 1, 5, thing), False, thing)

    def test_strange_things(self):
        for shows, word, sign in self.judges:
            for thing in strange_things():
                for almanac in ([("cut", 1)], [("fill", 1), ("cut", 0)], [("cut", 1), ("cut", 1), ("fill", 0)]):
                    wanted = self.wanted((1,), almanac, word, 0, 1, thing, sign)
                    self.assertIs(shows((1,), almanac, 0, 1, thing), wanted, thing)

    def test_posts_that_the_dune_has_not(self):
        for shows, word, sign in self.judges:
            for post in (-1, 2, 10 ** 30):
                self.assertIs(shows((0, 5), [], post, 99 * sign, []), False)

    def test_bounds(self):
        after = slow_behind(WIDE, LONG)
        for shows, word, sign in self.judges:
            play = best_play(WIDE, LONG, word)
            for post in (0, 1, 19, 39):
                self.assertIs(shows(WIDE, LONG, post, after[post], play), True)
                self.assertIs(shows(WIDE, LONG, post, after[post] - sign, play), False)

    def test_bounds_are_not_looked_at(self):
        dune = (0,) * 99 + (10 ** 40,)
        for shows, word, sign in self.judges:
            almanac = [(word, 10 ** 20)] * 50
            play = [tuple(range(100))] * 50
            self.assertIs(shows(dune, almanac, 99, 10 ** 40, play), True)
            self.assertIs(shows(dune, almanac, 99, 10 ** 40 - sign, play), False)


if __name__ == "__main__":
    unittest.main()
