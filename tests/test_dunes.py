import unittest

from dunebooks.dunes import handed, is_dune, mirrored, raised, sand, steepest, upside
from dunebooks.errors import NoPost
from samples import BOUND, nested, shape, small_dunes, strange_things


class Told(unittest.TestCase):
    def told(self, told, wanted):
        self.assertEqual(shape(told), shape(wanted))


class IsDune(unittest.TestCase):
    def test_dunes(self):
        for thing in [(0,), (1,), (-1,), (3, -2, 7), (0,) * 40, (BOUND, -BOUND)]:
            self.assertIs(is_dune(thing), True, thing)

    def test_bounds_are_not_looked_at(self):
        for thing in [(0,) * 1000, (BOUND + 1,), (-BOUND - 1, 10 ** 400)]:
            self.assertIs(is_dune(thing), True)

    def test_other_things(self):
        for thing in strange_things():
            self.assertIs(is_dune(thing), False, thing)

    def test_true_and_false_are_no_heights(self):
        for thing in [(True,), (False,), (1, True), (False, 0), (0, 1, False)]:
            self.assertIs(is_dune(thing), False, thing)

    def test_one_bad_height_anywhere(self):
        for bad in [None, "", "1", (), (1,), [], [1], True]:
            for at in range(3):
                heights = [4, 5, 6]
                heights[at] = bad
                self.assertIs(is_dune(tuple(heights)), False, heights)

    def test_bare_and_lists(self):
        for thing in [(), [], [1], [1, 2, 3], None, "", "12", 0, 7]:
            self.assertIs(is_dune(thing), False, thing)

    def test_nested(self):
        for deep in range(2, 13):
            for kinds in [(tuple,), (list,), (tuple, list), (list, tuple)]:
                self.assertIs(is_dune(nested(1, deep, kinds)), False)


class Steepest(Told):
    def test_ordinary(self):
        self.told(steepest((0, 5, 1)), 5)
        self.told(steepest((0, 1, 5)), 4)
        self.told(steepest((5, 1, 0)), 4)
        self.told(steepest((3, -4, 2, 1)), 7)

    def test_only_neighbours_count(self):
        self.told(steepest((0, 1, 2, 3)), 1)
        self.told(steepest((3, 2, 1, 0)), 1)

    def test_edges(self):
        for height in (0, 9, -9, BOUND):
            self.told(steepest((height,)), 0)
        self.told(steepest((4, 4, 4)), 0)
        self.told(steepest((7,) * 40), 0)

    def test_bounds(self):
        self.told(steepest((-BOUND, BOUND) * 20), 2 * BOUND)

    def test_each_gap_counts(self):
        for at in range(40):
            dune = [0] * 40
            dune[at] = -3
            self.told(steepest(tuple(dune)), 3)


class Sand(Told):
    def test_ordinary(self):
        self.told(sand((0, 5, 1)), 6)
        self.told(sand((3, -4, -2)), -3)

    def test_edges(self):
        self.told(sand((0,)), 0)
        self.told(sand((-8,)), -8)
        self.told(sand((BOUND,) * 40), 40 * BOUND)
        self.told(sand((-BOUND,) * 40), -40 * BOUND)


class Raised(Told):
    def test_ordinary(self):
        self.told(raised((0, 5, 1), 3), (3, 8, 4))
        self.told(raised((0, 5, 1), -3), (-3, 2, -2))
        self.told(raised((0, 5, 1), 0), (0, 5, 1))

    def test_edges(self):
        self.told(raised((2,), -2), (0,))
        self.told(raised((BOUND, -BOUND) * 20, 10 ** 50), (BOUND + 10 ** 50, -BOUND + 10 ** 50) * 20)


class Mirrored(Told):
    def test_ordinary(self):
        self.told(mirrored((0, 5, 1)), (1, 5, 0))
        self.told(mirrored((1, 2, 2, 9)), (9, 2, 2, 1))

    def test_edges(self):
        self.told(mirrored((3,)), (3,))
        self.told(mirrored(tuple(range(40))), tuple(range(39, -1, -1)))

    def test_twice_is_as_at_first(self):
        for dune in small_dunes(4, (0, 1, 5)):
            self.told(mirrored(mirrored(dune)), dune)


class Upside(Told):
    def test_ordinary(self):
        self.told(upside((0, 5, -1)), (0, -5, 1))

    def test_edges(self):
        self.told(upside((0,)), (0,))
        self.told(upside((BOUND, -BOUND) * 20), (-BOUND, BOUND) * 20)

    def test_twice_is_as_at_first(self):
        for dune in small_dunes(4, (0, -1, 5)):
            self.told(upside(upside(dune)), dune)


class Handed(Told):
    def test_ordinary(self):
        self.told(handed((0, 5, 1), 0, 4), (4, 5, 1))
        self.told(handed((0, 5, 1), 1, -7), (0, -2, 1))
        self.told(handed((0, 5, 1), 2, 1), (0, 5, 2))

    def test_by_nothing(self):
        self.told(handed((0, 5, 1), 1, 0), (0, 5, 1))

    def test_edges(self):
        self.told(handed((3,), 0, -3), (0,))
        self.told(handed((BOUND,) * 40, 39, 10 ** 50), (BOUND,) * 39 + (BOUND + 10 ** 50,))

    def refused(self, dune, post, by):
        with self.assertRaises(NoPost) as told:
            handed(dune, post, by)
        self.assertIs(type(told.exception), NoPost)
        self.assertTrue(told.exception.post == post)
        self.assertIs(type(told.exception.post), int)

    def test_no_such_post(self):
        for post in (-1, -2, -3, -4, 3, 4, 100, BOUND, -BOUND):
            self.refused((0, 5, 1), post, 2)

    def test_no_such_post_of_one(self):
        for post in (-1, 1):
            self.refused((0,), post, 2)

    def test_no_such_post_of_forty(self):
        for post in (-1, -40, 40):
            self.refused((0,) * 40, post, 2)

    def test_refused_also_by_nothing(self):
        self.refused((0, 5, 1), 3, 0)

    def test_any_number_is_refused_so(self):
        for post in (10 ** 5000, -10 ** 5000):
            self.refused((0, 5, 1), post, 1)


if __name__ == "__main__":
    unittest.main()
