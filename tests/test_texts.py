import itertools
import re
import unittest

from dunebooks.errors import BadText
from dunebooks.texts import almanac_in, almanac_text, dune_in, dune_text
from samples import BOUND, shape, small_almanacs, small_dunes

# [18] in Python's own patterns; \Z, since $ would let a line feed stand behind.
HEIGHT = re.compile(r"(0|-?[1-9][0-9]*)\Z")
WIND = re.compile(r"[cf](0|[1-9][0-9]*)\Z")
LONG = [10 ** many + more for many in (17, 18, 58, 59, 60, 61, 119, 120, 121, 180, 300, 600) for more in (-1, 0, 1)]
LONG += [7 * 10 ** 90 + 3, 10 ** 120 + 10 ** 59, 10 ** 130 + 10 ** 60, int("90" * 150)]
# Numbers of more figures than Python itself writes out or reads, with their figures.
VERY_LONG = [(10 ** 5000, "1" + "0" * 5000), (10 ** 5000 - 1, "9" * 5000), (10 ** 30000 + 7, "1" + "0" * 29999 + "7"),
             (2 * 10 ** 4301 + 3 * 10 ** 60, "2" + "0" * 4240 + "3" + "0" * 60)]
BAD_NUMBERS = ["", "-", "-0", "+1", "+0", "00", "01", "-01", "--1", "1-", "1.0", "1e3", "0x1", "1_0", "1,0", "a", "O",
               "\t1", "1\t", "1\n", "\n", "1\r", "\x00", "1\x00", "\u00a01", "1\u2003", "\u0661", "\u00b2", "\uff11",
               "1\u0660", "-\u0661", "\u22121", "\u20131", "\u0be7", "\U0001d7cf", "\ud800", "None", "True", "(1)"]


class Told(unittest.TestCase):
    def told(self, told, wanted):
        self.assertEqual(shape(told), shape(wanted))

    def same(self, told, wanted):
        """As told, of numbers too long to be shown where they aren't the same."""
        self.assertIs(type(told), type(wanted))
        self.assertTrue(told == wanted)

    def bad(self, function, text, at):
        with self.assertRaises(BadText, msg=repr(text)) as told:
            function(text)
        self.assertIs(type(told.exception), BadText)
        self.told(told.exception.at, at)


class DuneText(Told):
    def test_ordinary(self):
        self.told(dune_text((0, 5, -1)), "0 5 -1")
        self.told(dune_text((120, -30, 7)), "120 -30 7")

    def test_one_post(self):
        for height, text in [(0, "0"), (5, "5"), (-5, "-5"), (10, "10"), (-100, "-100")]:
            self.told(dune_text((height,)), text)

    def test_bounds(self):
        self.told(dune_text((BOUND, -BOUND) * 20), " ".join(["4000000000 -4000000000"] * 20))

    def test_long_numbers(self):
        for number in LONG:
            self.told(dune_text((number, -number)), f"{number} -{number}")

    def test_numbers_longer_than_python_writes(self):
        for number, figures in VERY_LONG:
            self.same(dune_text((number, 0, -number)), figures + " 0 -" + figures)


class DuneIn(Told):
    def test_ordinary(self):
        self.told(dune_in("0 5 -1"), (0, 5, -1))
        self.told(dune_in("0"), (0,))
        self.told(dune_in("-7"), (-7,))
        self.told(dune_in("10 20 -30"), (10, 20, -30))

    def test_what_is_written_is_read(self):
        for dune in small_dunes(3, (0, 7, -7, 10, -100, BOUND, -BOUND)):
            self.told(dune_in(dune_text(dune)), dune)
        for number in LONG:
            self.told(dune_in(f"{number} -{number}"), (number, -number))
        for number, figures in VERY_LONG:
            self.same(dune_in(f"{figures} 0 -{figures}"), (number, 0, -number))

    def test_bare(self):
        self.bad(dune_in, "", 0)

    def test_blanks(self):
        self.bad(dune_in, " ", 0)
        self.bad(dune_in, "   ", 0)
        self.bad(dune_in, " 1", 0)
        self.bad(dune_in, "1 ", 1)
        self.bad(dune_in, "1  2", 1)
        self.bad(dune_in, "1 2  3", 2)
        self.bad(dune_in, "1 2 3 ", 3)

    def test_no_heights(self):
        for word in BAD_NUMBERS + ["c1", "f0", "c", "dune"]:
            self.bad(dune_in, word, 0)
            self.bad(dune_in, "3 -4 " + word, 2)
            self.bad(dune_in, word + " 3", 0)
            self.bad(dune_in, "0 " + word + " 3 " + word, 1)

    def test_the_last_of_many(self):
        self.bad(dune_in, "1 " * 99 + "x", 99)

    def test_very_long_ones(self):
        self.bad(dune_in, "0" + "1" * 5000, 0)
        self.bad(dune_in, "1 " + "1" * 5000 + "x", 1)
        self.bad(dune_in, "1 -0" + "1" * 5000, 1)
        self.bad(dune_in, "1" * 70 + "-1" + "1" * 70, 0)
        self.bad(dune_in, "1" * 60 + "+" + "1" * 59, 0)
        self.bad(dune_in, "1" * 60 + "_" + "1" * 59, 0)

    def test_all_short_texts(self):
        for many in range(6):
            for row in itertools.product(" -+019c\n", repeat=many):
                text = "".join(row)
                bad = [at for at, word in enumerate(text.split(" ")) if not HEIGHT.match(word)]
                if bad:
                    self.bad(dune_in, text, bad[0])
                else:
                    self.told(dune_in(text), tuple([int(word) for word in text.split(" ")]))
                    self.told(dune_text(dune_in(text)), text)


class AlmanacText(Told):
    def test_ordinary(self):
        self.told(almanac_text([("cut", 3), ("fill", 2)]), "c3 f2")
        self.told(almanac_text([("fill", 0), ("cut", 10), ("cut", 0)]), "f0 c10 c0")

    def test_edges(self):
        self.told(almanac_text([]), "-")
        self.told(almanac_text(()), "-")
        self.told(almanac_text([("fill", 0)]), "f0")
        self.told(almanac_text([("cut", BOUND)] * 30), " ".join(["c4000000000"] * 30))

    def test_long_numbers(self):
        for number in LONG:
            self.told(almanac_text([("cut", number), ("fill", number)]), f"c{number} f{number}")
        for number, figures in VERY_LONG:
            self.same(almanac_text([("cut", number), ("fill", number)]), f"c{figures} f{figures}")


class AlmanacIn(Told):
    def test_ordinary(self):
        self.told(almanac_in("c3 f2"), [("cut", 3), ("fill", 2)])
        self.told(almanac_in("f0"), [("fill", 0)])
        self.told(almanac_in("c10 c10"), [("cut", 10), ("cut", 10)])

    def test_no_winds(self):
        self.told(almanac_in("-"), [])

    def test_what_is_written_is_read(self):
        for almanac in small_almanacs(3, (0, 7, 10, BOUND)):
            self.told(almanac_in(almanac_text(almanac)), almanac)
        for number in LONG:
            self.told(almanac_in(f"c{number} f{number}"), [("cut", number), ("fill", number)])
        for number, figures in VERY_LONG:
            self.same(almanac_in(f"c{figures} f{figures}"), [("cut", number), ("fill", number)])

    def test_bare(self):
        self.bad(almanac_in, "", 0)

    def test_blanks(self):
        self.bad(almanac_in, " ", 0)
        self.bad(almanac_in, " c1", 0)
        self.bad(almanac_in, "c1 ", 1)
        self.bad(almanac_in, "c1  f2", 1)
        self.bad(almanac_in, "c1 f2  c3", 2)
        self.bad(almanac_in, "c 1", 0)

    def test_the_stroke_stands_alone_only(self):
        self.bad(almanac_in, "- ", 0)
        self.bad(almanac_in, " -", 0)
        self.bad(almanac_in, "--", 0)
        self.bad(almanac_in, "- -", 0)
        self.bad(almanac_in, "- c1", 0)
        self.bad(almanac_in, "c1 -", 1)

    def test_no_winds_of_that_slope(self):
        for first in ("c", "f"):
            for word in BAD_NUMBERS + ["-1", "c1", "f1", "c"]:
                self.bad(almanac_in, first + word, 0)
                self.bad(almanac_in, "c3 f4 " + first + word, 2)
                self.bad(almanac_in, "f0 " + first + word + " c3 x", 1)

    def test_other_words(self):
        for word in ("0", "1", "C1", "F1", "x1", "cut1", "fill 1", "1c", "cf1", "C", "\u04411", "h1"):
            self.bad(almanac_in, word, 0)
            self.bad(almanac_in, "c1 " + word, 1)

    def test_the_last_of_many(self):
        self.bad(almanac_in, "c1 " * 99 + "c01", 99)

    def test_all_short_texts(self):
        for many in range(6):
            for row in itertools.product(" -01cf+\n", repeat=many):
                text = "".join(row)
                bad = [at for at, word in enumerate(text.split(" ")) if not WIND.match(word)]
                if text == "-":
                    self.told(almanac_in(text), [])
                elif bad:
                    self.bad(almanac_in, text, bad[0])
                else:
                    wanted = [("cut" if word[0] == "c" else "fill", int(word[1:])) for word in text.split(" ")]
                    self.told(almanac_in(text), wanted)
                    self.told(almanac_text(almanac_in(text)), text)


if __name__ == "__main__":
    unittest.main()
