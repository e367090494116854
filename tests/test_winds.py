import itertools
import unittest

from dunebooks.dunes import mirrored, raised, steepest, upside
from dunebooks.winds import blown, contrary, is_idle, is_wind, shows_blown, sources
from samples import BOUND, WORDS, nested, shape, slow_blown, slow_sources, small_dunes, strange_things

SLOPES = (0, 1, 2, 3, 5)
DUNES = small_dunes(4, (-2, 0, 1, 5)) + list(itertools.product((0, 3), repeat=5)) + [(9, 0, 0, 0, 7, -4, 12), (0,) * 6]
CASES = [(dune, (word, slope)) for dune in DUNES for word in WORDS for slope in SLOPES]
WIDE = [(-BOUND, BOUND) * 20, (BOUND,) + (-BOUND,) * 39, (-BOUND,) * 39 + (BOUND,), tuple(range(40)),
        tuple((at * 37 % 23) * 10 ** 8 for at in range(40))]
WIDE_SLOPES = (0, 1, 10 ** 8, BOUND // 39, BOUND - 1, BOUND, 2 * BOUND - 1, 2 * BOUND)


class Told(unittest.TestCase):
    def told(self, told, wanted):
        self.assertEqual(shape(told), shape(wanted))


class IsWind(unittest.TestCase):
    def test_winds(self):
        for word in WORDS:
            for slope in (0, 1, 7, BOUND):
                self.assertIs(is_wind((word, slope)), True)

    def test_bounds_are_not_looked_at(self):
        for word in WORDS:
            self.assertIs(is_wind((word, BOUND + 1)), True)
            self.assertIs(is_wind((word, 10 ** 5000)), True)

    def test_slopes_below_0(self):
        for word in WORDS:
            for slope in (-1, -BOUND, -10 ** 30):
                self.assertIs(is_wind((word, slope)), False)

    def test_no_slopes(self):
        for word in WORDS:
            for slope in (True, False, None, "", "1", (), (1,), [], [1], "cut"):
                self.assertIs(is_wind((word, slope)), False, slope)

    def test_other_words(self):
        for word in ("", "c", "f", "Cut", "CUT", "cut ", " fill", "fills", "hand", 0, 1, True, False, None,
                     (), [], ("cut",), ["cut"], ("cut", "fill"), "cutfill"):
            self.assertIs(is_wind((word, 1)), False, word)

    def test_pairs_too_short_or_too_long(self):
        for thing in [(), ("cut",), (1,), ("cut", 1, 1), ("fill", 1, None), ("cut", 1, "fill", 1)]:
            self.assertIs(is_wind(thing), False, thing)

    def test_other_way_about(self):
        self.assertIs(is_wind((1, "cut")), False)

    def test_lists(self):
        for thing in [[], ["cut"], ["cut", 1], ["fill", 0], [("cut", 1)], (["cut", 1],), (("cut", 1),)]:
            self.assertIs(is_wind(thing), False, thing)

    def test_strange_things(self):
        for thing in strange_things():
            self.assertIs(is_wind(thing), False, thing)

    def test_nested(self):
        for deep in range(1, 11):
            for kinds in [(tuple,), (list,), (tuple, list)]:
                self.assertIs(is_wind(nested(("cut", 1), deep, kinds)), False)
                self.assertIs(is_wind(("cut", nested(1, deep, kinds))), False)
                self.assertIs(is_wind((nested("cut", deep, kinds), 1)), False)


class Blown(Told):
    def test_ordinary(self):
        self.told(blown((0, 5, 1), ("cut", 2)), (0, 2, 1))
        self.told(blown((0, 5, 1), ("fill", 2)), (3, 5, 3))
        self.told(blown((9, 0, 0, 0, 7), ("cut", 2)), (2, 0, 0, 0, 2))
        self.told(blown((9, 0, 0, 0, 7), ("fill", 2)), (9, 7, 5, 5, 7))

    def test_heights_from_far_off(self):
        self.told(blown((0, 9, 9, 9, 9), ("cut", 2)), (0, 2, 4, 6, 8))
        self.told(blown((9, 9, 9, 9, 0), ("cut", 2)), (8, 6, 4, 2, 0))
        self.told(blown((9, 0, 0, 0, 0), ("fill", 2)), (9, 7, 5, 3, 1))
        self.told(blown((0, 0, 0, 0, 9), ("fill", 2)), (1, 3, 5, 7, 9))

    def test_one_post(self):
        for word in WORDS:
            for slope in (0, 1, BOUND):
                for height in (0, -7, BOUND, -BOUND):
                    self.told(blown((height,), (word, slope)), (height,))

    def test_slope_0(self):
        self.told(blown((4, -1, 6, 2), ("cut", 0)), (-1, -1, -1, -1))
        self.told(blown((4, -1, 6, 2), ("fill", 0)), (6, 6, 6, 6))

    def test_slope_as_much_as_the_dune_is_steep_and_one_less(self):
        for dune, slope in [((0, 5, 1), 5), ((3, -4, 2), 7), ((0, 1), 1)]:
            for word in WORDS:
                self.told(blown(dune, (word, slope)), dune)
                self.assertNotEqual(blown(dune, (word, slope - 1)), dune)
        self.told(blown((0, 5, 1), ("cut", 4)), (0, 4, 1))
        self.told(blown((0, 5, 1), ("fill", 4)), (1, 5, 1))

    def test_as_by_going_through_all_posts(self):
        for dune, wind in CASES:
            self.told(blown(dune, wind), slow_blown(dune, wind))

    def test_bounds(self):
        for dune in WIDE:
            for word, slope in itertools.product(WORDS, WIDE_SLOPES):
                self.told(blown(dune, (word, slope)), slow_blown(dune, (word, slope)))
        self.told(blown((-BOUND, BOUND) * 20, ("cut", BOUND)), (-BOUND, 0) * 20)
        self.told(blown((-BOUND, BOUND) * 20, ("fill", BOUND)), (0, BOUND) * 20)

    def test_forty_posts(self):
        self.told(blown((0,) + (100,) * 39, ("cut", 1)), tuple(range(40)))
        self.told(blown((100,) * 39 + (0,), ("cut", 1)), tuple(range(39, -1, -1)))
        self.told(blown((0,) + (-100,) * 39, ("fill", 1)), tuple(range(0, -40, -1)))

    def test_nothing_is_steeper_behind(self):
        for dune, wind in CASES:
            self.assertLessEqual(steepest(blown(dune, wind)), wind[1])

    def test_mirrored_upside_and_raised_ones(self):
        for dune, wind in CASES:
            after = blown(dune, wind)
            self.assertEqual(blown(mirrored(dune), wind), mirrored(after))
            self.assertEqual(blown(upside(dune), contrary(wind)), upside(after))
            self.assertEqual(blown(raised(dune, -7), wind), raised(after, -7))


class IsIdle(unittest.TestCase):
    def test_ordinary(self):
        for word in WORDS:
            self.assertIs(is_idle((0, 5, 1), (word, 6)), True)
            self.assertIs(is_idle((0, 5, 1), (word, 2)), False)

    def test_just_as_steep_and_one_less(self):
        for word in WORDS:
            self.assertIs(is_idle((0, 5, 1), (word, 5)), True)
            self.assertIs(is_idle((0, 5, 1), (word, 4)), False)

    def test_one_post_and_slope_0(self):
        for word in WORDS:
            self.assertIs(is_idle((5,), (word, 0)), True)
            self.assertIs(is_idle((5, 5, 5), (word, 0)), True)
            self.assertIs(is_idle((5, 5, 6), (word, 0)), False)

    def test_bounds(self):
        for word in WORDS:
            self.assertIs(is_idle((BOUND, 0) * 20, (word, BOUND)), True)
            self.assertIs(is_idle((BOUND, -1) * 20, (word, BOUND)), False)
            self.assertIs(is_idle((BOUND, -BOUND) * 20, (word, 2 * BOUND)), True)

    def test_just_where_nothing_changes(self):
        for dune, wind in CASES:
            self.assertIs(is_idle(dune, wind), slow_blown(dune, wind) == dune)


class Contrary(Told):
    def test_both_words(self):
        for slope in (0, 1, BOUND, 10 ** 30):
            self.told(contrary(("cut", slope)), ("fill", slope))
            self.told(contrary(("fill", slope)), ("cut", slope))


class Sources(Told):
    def test_ordinary(self):
        self.told(sources((0, 5, 1), ("cut", 2)), (0, 0, 2))
        self.told(sources((0, 5, 1), ("fill", 2)), (1, 1, 1))

    def test_first_of_several(self):
        self.told(sources((0, 3, 0), ("cut", 1)), (0, 0, 2))
        self.told(sources((3, 0, 3), ("fill", 1)), (0, 0, 2))
        self.told(sources((4, 4, 4), ("cut", 0)), (0, 0, 0))
        self.told(sources((4, 4, 4), ("fill", 0)), (0, 0, 0))

    def test_slope_as_much_as_the_dune_is_steep(self):
        self.told(sources((0, 1, 2), ("cut", 1)), (0, 0, 0))
        self.told(sources((0, 1, 2), ("fill", 1)), (0, 1, 2))
        self.told(sources((2, 1, 0), ("fill", 1)), (0, 0, 0))
        self.told(sources((0, 1, 2), ("cut", 2)), (0, 1, 2))

    def test_one_post(self):
        for word in WORDS:
            for slope in (0, 3, BOUND):
                self.told(sources((5,), (word, slope)), (0,))

    def test_as_by_going_through_all_posts(self):
        for dune, wind in CASES:
            self.told(sources(dune, wind), tuple([row[0] for row in slow_sources(dune, wind)]))

    def test_bounds(self):
        for dune in WIDE:
            for word, slope in itertools.product(WORDS, WIDE_SLOPES):
                wanted = tuple([row[0] for row in slow_sources(dune, (word, slope))])
                self.told(sources(dune, (word, slope)), wanted)
        self.told(sources((0,) + (100,) * 39, ("cut", 1)), (0,) * 40)
        self.told(sources((100,) * 39 + (0,), ("cut", 1)), (39,) * 40)


class ShowsBlown(unittest.TestCase):
    def test_what_blown_and_sources_tell(self):
        for dune, wind in CASES:
            self.assertIs(shows_blown(dune, wind, (blown(dune, wind), sources(dune, wind))), True)

    def test_any_posts_from_which_heights_come(self):
        for dune, wind in [((0, 3, 0), ("cut", 1)), ((3, 0, 3), ("fill", 1)), ((1, 1, 1), ("cut", 0)),
                           ((0, 1, 2), ("cut", 1)), ((0, 5, 1), ("fill", 2)), ((4,), ("fill", 3))]:
            after, rows = slow_blown(dune, wind), slow_sources(dune, wind)
            for posts in itertools.product(range(-2, len(dune) + 2), repeat=len(dune)):
                wanted = all(post in row for post, row in zip(posts, rows))
                self.assertIs(shows_blown(dune, wind, (after, posts)), wanted, (dune, wind, posts))

    def test_other_heights(self):
        dune, wind = (0, 5, 1), ("cut", 2)
        self.assertIs(shows_blown(dune, wind, ((0, 2, 1), (0, 0, 2))), True)
        for heights in itertools.product(range(4), repeat=3):
            self.assertIs(shows_blown(dune, wind, (heights, (0, 0, 2))), heights == (0, 2, 1))
        # Post 1 itself gives 5, but it isn't the least that it gets.
        self.assertIs(shows_blown(dune, wind, ((0, 5, 1), (0, 1, 2))), False)

    def test_posts_below_0_and_beyond_the_last(self):
        for word in WORDS:
            for post in (-1, 1, 10 ** 30, -10 ** 30):
                self.assertIs(shows_blown((7,), (word, 0), ((7,), (post,))), False)
        self.assertIs(shows_blown((4, 4), ("cut", 0), ((4, 4), (0, -1))), False)
        self.assertIs(shows_blown((4, 4), ("cut", 0), ((4, 4), (-2, 0))), False)
        self.assertIs(shows_blown((4, 4), ("cut", 0), ((4, 4), (0, 2))), False)

    def test_true_and_false(self):
        dune, wind = (0, 1), ("cut", 1)
        self.assertIs(shows_blown(dune, wind, ((0, 1), (0, 1))), True)
        for thing in [((False, 1), (0, 1)), ((0, True), (0, 1)), ((0, 1), (False, 1)), ((0, 1), (0, True)), True, False]:
            self.assertIs(shows_blown(dune, wind, thing), False, thing)

    def test_lists_for_tuples(self):
        dune, wind = (0, 1), ("cut", 1)
        for thing in [[(0, 1), (0, 1)], ([0, 1], (0, 1)), ((0, 1), [0, 1]), [[0, 1], [0, 1]]]:
            self.assertIs(shows_blown(dune, wind, thing), False, thing)
            self.assertIs(shows_blown(list(dune), list(wind), thing), False, thing)

    def test_too_short_and_too_long(self):
        dune, wind = (0, 1), ("cut", 1)
        for thing in [(), ((0, 1),), ((0, 1), (0, 1), (0, 1)), ((0, 1), ()), ((0, 1), (0,)), ((0, 1), (0, 1, 1)),
                      ((0,), (0, 1)), ((0, 1, 2), (0, 1)), ((0, 1, 2), (0, 1, 2)), ((0,), (0,)), ((), ()), ((), (0, 1)),
                      (0, 1), (0, 1, 0, 1), ((0, 1), 0), (0, (0, 1))]:
            self.assertIs(shows_blown(dune, wind, thing), False, thing)

    def test_other_kinds_inside(self):
        dune, wind = (0, 1), ("cut", 1)
        for bad in (None, "", "0", "01", (), [], (0,), [0], True, 0, 1):
            for thing in [(bad, (0, 1)), ((0, 1), bad), (bad, bad), ((bad, (1,)), (0, 1)), ((0, 1), ((bad,), 1)), bad]:
                self.assertIs(shows_blown(dune, wind, thing), False, thing)
        for bad in (None, "", "1", (), [], (1,), [1], True):
            for thing in [((0, bad), (0, 1)), ((0, 1), (0, bad))]:
                self.assertIs(shows_blown(dune, wind, thing), False, thing)

    def test_strange_things(self):
        for dune in [(1,), (0, 1), (1, 1, 1)]:
            for wind in [("cut", 0), ("fill", 1)]:
                for thing in strange_things():
                    self.assertIs(shows_blown(dune, wind, thing), False, thing)

    def test_nested(self):
        for deep in range(1, 10):
            for kinds in [(tuple,), (list,), (tuple, list)]:
                thing = nested(((0, 1), (0, 1)), deep, kinds)
                self.assertIs(shows_blown((0, 1), ("cut", 1), thing), False)

    def test_bounds_are_not_looked_at(self):
        many = 300
        dune, posts = (0,) + (10 ** 40,) * (many - 1), (0,) * many
        after = tuple([at * 10 ** 20 for at in range(many)])
        self.assertIs(shows_blown(dune, ("cut", 10 ** 20), (after, posts)), True)
        self.assertIs(shows_blown(dune, ("cut", 10 ** 20), (after, posts[:-1] + (1,))), False)
        self.assertIs(shows_blown(dune, ("cut", 10 ** 20), (after[:-1] + (0,), posts)), False)

    def test_bounds(self):
        for dune in WIDE:
            for word, slope in itertools.product(WORDS, WIDE_SLOPES):
                wind = (word, slope)
                after, rows = slow_blown(dune, wind), slow_sources(dune, wind)
                last = tuple([row[-1] for row in rows])
                self.assertIs(shows_blown(dune, wind, (after, last)), True)
                self.assertIs(shows_blown(dune, wind, (after[:-1] + (after[-1] + 1,), last)), False)


if __name__ == "__main__":
    unittest.main()
