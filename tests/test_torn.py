import itertools
import unittest

from dunebooks.almanacs import behind
from dunebooks.dunes import steepest
from dunebooks.torn import fits_torn, slopes_for
from samples import BOUND, WORDS, Told, slow_behind, small_almanacs, small_dunes

DUNES = small_dunes(3, (0, 2, 5)) + [(0, 6, 1, 3), (7, 0, 0, 4, 2)]
AROUND = small_almanacs(1, (0, 1, 3))
PAIRS = list(itertools.product(AROUND, repeat=2))
# Beyond the steepest gap of all of these.
SLOPES = range(10)


def slow_slopes(ends, told):
    """What slopes_for must tell, by what stands behind each small slope."""
    fitting = [slope for slope, end in zip(SLOPES, ends) if end == told]
    if not fitting:
        return None
    return (fitting[0], None if fitting[-1] == SLOPES[-1] else fitting[-1])


def ends_by_slope(dune, ahead, word, later):
    """What stands behind the torn page for each small slope, done slowly."""
    return [slow_behind(dune, ahead + [(word, slope)] + later) for slope in SLOPES]


class SlopesFor(Told):
    def test_ordinary(self):
        self.told(slopes_for((0, 5, 1), [], "cut", [], (0, 3, 1)), (3, 3))
        self.told(slopes_for((0, 5, 1), [], "fill", [], (2, 5, 2)), (3, 3))
        self.told(slopes_for((0, 5, 1), [], "cut", [("cut", 2)], (0, 2, 1)), (2, None))
        self.told(slopes_for((0, 5, 1), [("fill", 2)], "cut", [("fill", 1)], (4, 5, 4)), (2, None))

    def test_a_stretch_with_an_end(self):
        # What a cut of 2 to 5 leaves, the later cut alone ends; of 6 the fill brings some.
        self.told(slopes_for((0, 9), [], "cut", [("fill", 5), ("cut", 2)], (0, 2)), (2, 5))
        self.told(slopes_for((0, 9), [], "cut", [("fill", 5), ("cut", 2)], (1, 3)), (6, 6))
        self.told(slopes_for((0, 9), [], "fill", [("cut", 5), ("fill", 2)], (7, 9)), (2, 5))
        self.told(slopes_for((0, 9), [("cut", 8)], "cut", [("fill", 5), ("cut", 2)], (3, 5)), (8, None))
        self.told(slopes_for((0, 4, 0, 9), [], "cut", [("fill", 4)], (0, 4, 1, 5)), (5, 5))

    def test_a_stretch_from_0(self):
        self.told(slopes_for((0, 9), [], "cut", [("fill", 3), ("cut", 0)], (0, 0)), (0, 3))
        self.told(slopes_for((0, 9), [], "fill", [("cut", 3), ("fill", 0)], (9, 9)), (0, 3))
        self.told(slopes_for((0, 2, 0), [], "cut", [("fill", 3), ("cut", 0)], (0, 0, 0)), (0, None))

    def test_no_such_slope(self):
        for word in WORDS:
            self.told(slopes_for((0, 5, 1), [], word, [], (0, 5, 2)), None)
            self.told(slopes_for((5, 5), [], word, [], (5, 4)), None)
            self.told(slopes_for((5,), [], word, [("cut", 0)], (6,)), None)
            self.told(slopes_for((0, 9), [("cut", 3)], word, [], (0, 4)), None)

    def test_between_two_slopes(self):
        # Told is partly below what each slope leads to, partly above it.
        self.told(slopes_for((0, 5, 0, 9), [], "cut", [], (0, 3, 0, 4)), None)
        self.told(slopes_for((0, 5, 0, 9), [], "fill", [], (2, 5, 4, 9)), None)

    def test_all_slopes_from_one_on(self):
        for word in WORDS:
            self.told(slopes_for((0, 5, 1), [], word, [], (0, 5, 1)), (5, None))
            self.told(slopes_for((0, 5, 1), [(word, 3)], word, [], behind((0, 5, 1), [(word, 3)])), (3, None))
            self.told(slopes_for((4, 4, 4), [], word, [], (4, 4, 4)), (0, None))
            self.told(slopes_for((7,), [("cut", 2)], word, [("fill", 2)], (7,)), (0, None))

    def test_slope_0_alone(self):
        self.told(slopes_for((0, 5, 1), [], "cut", [], (0, 0, 0)), (0, 0))
        self.told(slopes_for((0, 5, 1), [], "fill", [], (5, 5, 5)), (0, 0))
        self.told(slopes_for((0, 1), [], "cut", [("fill", 3)], (0, 0)), (0, 0))

    def test_none_ahead_none_behind(self):
        for word in WORDS:
            for slope in range(5):
                told = slow_behind((0, 5), [(word, slope)])
                self.told(slopes_for((0, 5), [], word, [], told), (slope, slope))

    def test_all_small_slopes(self):
        tried = 0
        for dune, (ahead, later), word in itertools.product(DUNES, PAIRS, WORDS):
            ends = ends_by_slope(dune, ahead, word, later)
            for told in sorted(set(ends)):
                self.told(slopes_for(dune, ahead, word, later, told), slow_slopes(ends, told))
                tried += 1
        self.assertGreater(tried, 1000)

    def test_all_told_dunes_of_two_posts(self):
        around = small_almanacs(2, (0, 1, 3))
        seen = set()
        for ahead, later, word in itertools.product([[], [("cut", 4)], [("fill", 1)]], around, WORDS):
            ends = ends_by_slope((0, 5), ahead, word, later)
            for told in itertools.product(range(6), repeat=2):
                self.told(slopes_for((0, 5), ahead, word, later, told), slow_slopes(ends, told))
                seen.add(slow_slopes(ends, told))
        self.assertTrue({None, (0, 0), (0, None), (1, 3), (0, 1), (3, None)} <= seen, seen)

    def test_told_dunes_that_are_off_at_one_post(self):
        for dune, (ahead, later), word in itertools.product(DUNES[20:], PAIRS[::5], WORDS):
            ends = ends_by_slope(dune, ahead, word, later)
            for end, post, by in itertools.product(sorted(set(ends)), range(len(dune)), (-1, 1)):
                told = end[:post] + (end[post] + by,) + end[post + 1:]
                self.told(slopes_for(dune, ahead, word, later, told), slow_slopes(ends, told))

    def test_told_dunes_of_other_posts(self):
        for word in WORDS:
            self.told(slopes_for((0, 5), [], word, [], (0, 5, 5)), None)
            self.told(slopes_for((0, 5), [], word, [], (0,)), None)

    def test_bounds(self):
        dune = (-BOUND, BOUND) * 20
        self.told(slopes_for(dune, [], "cut", [], dune), (2 * BOUND, None))
        self.told(slopes_for(dune, [], "fill", [], dune), (2 * BOUND, None))
        self.told(slopes_for(dune, [], "cut", [], (-BOUND, BOUND - 1) * 20), (2 * BOUND - 1, 2 * BOUND - 1))
        self.told(slopes_for(dune, [], "fill", [], (0, BOUND) * 20), (BOUND, BOUND))
        long = [(WORDS[at % 2], BOUND - at * 10 ** 8) for at in range(30)]
        wide = (0, BOUND, -BOUND, 7) * 10
        for word, slope in itertools.product(WORDS, (0, 17, BOUND // 2, BOUND)):
            for ahead, later in [(long, []), (long[:15], long[15:]), ([], long), (long[:2], long[2:4])]:
                told = slow_behind(wide, ahead + [(word, slope)] + later)
                least, greatest = slopes_for(wide, ahead, word, later, told)
                self.assertTrue(least <= slope and (greatest is None or slope <= greatest))
                for other, wanted in self.brink(least, greatest, steepest(slow_behind(wide, ahead))):
                    end = slow_behind(wide, ahead + [(word, other)] + later)
                    self.assertEqual(end == told, wanted)

    def brink(self, least, greatest, end):
        """Slopes at both ends of a stretch and just beyond, with whether they lead to the told dune."""
        told = [(least, True)] + ([(least - 1, False)] if least > 0 else [])
        if greatest is None:
            return told + [(max(end, least) + 1, True), (10 ** 30, True)]
        return told + [(greatest, True), (greatest + 1, False)]


class FitsTorn(Told):
    def test_ordinary(self):
        self.told(fits_torn((0, 5, 1), [], [], (0, 3, 1)), ["cut"])
        self.told(fits_torn((0, 5, 1), [], [], (2, 5, 2)), ["fill"])
        self.told(fits_torn((0, 5, 1), [], [], (0, 5, 1)), ["cut", "fill"])
        self.told(fits_torn((0, 5, 1), [], [], (0, 5, 2)), [])

    def test_one_post(self):
        self.told(fits_torn((5,), [], [], (5,)), ["cut", "fill"])
        self.told(fits_torn((5,), [("cut", 0)], [("fill", 0)], (4,)), [])

    def test_small_ones(self):
        seen = set()
        for dune, (ahead, later) in itertools.product(DUNES[10:], PAIRS):
            ends = {word: ends_by_slope(dune, ahead, word, later) for word in WORDS}
            for told in sorted(set(ends["cut"] + ends["fill"] + [dune])):
                wanted = [word for word in WORDS if told in ends[word]]
                self.told(fits_torn(dune, ahead, later, told), wanted)
                seen.add(tuple(wanted))
        self.assertEqual(len(seen), 4)

    def test_bounds(self):
        dune = (-BOUND, BOUND) * 20
        self.told(fits_torn(dune, [("cut", BOUND)] * 15, [("fill", BOUND)] * 15, (-BOUND, 0) * 20), ["cut", "fill"])
        self.told(fits_torn(dune, [], [("cut", 0)] * 30, (-BOUND,) * 40), ["cut", "fill"])
        self.told(fits_torn(dune, [], [("cut", 0)] * 30, (BOUND,) * 40), ["fill"])


if __name__ == "__main__":
    unittest.main()
