import math
import unittest

from dunebooks.cores import core
from dunebooks.desk import answers
from dunebooks.dunes import sand, steepest
from dunebooks.errors import BadRow, NoPost
from dunebooks.longbooks import long_many
from dunebooks.texts import almanac_text, dune_text
from dunebooks.yard import Yard
from samples import BOUND, Told, spread_numbers

FIRST = "dune 0 5 1"
ASKS = ["dune", "sand", "steepest", "core", "may", "sure", "many"]


def sheet(*rows):
    """The text of these rows."""
    return "\n".join(rows)


def yard_answer(yard, row):
    """What a row's answer must be, told of a yard of one's own."""
    word, *rest = row.split(" ")
    if word in ("cut", "fill"):
        return str(max(yard.blow(word, int(rest[0]))))
    if word == "hand":
        try:
            yard.hand(int(rest[0]), int(rest[1]))
        except NoPost:
            return "refused NoPost"
        return "done"
    if word in ("undo", "sure"):
        return "yes" if (yard.undo() if word == "undo" else yard.is_sure()) else "no"
    winds = []
    for entry in yard.entries():
        winds = [] if entry[0] == "hand" else winds + [entry]
    least, greatest = yard.may()
    return {"dune": dune_text(yard.dune()), "sand": str(sand(yard.dune())), "steepest": str(steepest(yard.dune())),
            "core": almanac_text(core(winds)), "may": dune_text(least) + " / " + dune_text(greatest),
            "many": str(long_many(yard.kept_by("cut"), yard.kept_by("fill")))}[word]


class Answers(Told):
    def told_of(self, rows, wanted):
        self.told(answers(sheet(FIRST, *rows)), wanted)

    def bad(self, row, *rows):
        self.refused(BadRow, {"row": row}, answers, sheet(*rows))

    def test_the_first_row_alone(self):
        for first in (FIRST, "dune 0", "dune -7", "dune -1 0 20 -300"):
            self.told(answers(first), [])

    def test_deeds(self):
        self.told_of(["cut 3", "fill 2", "cut 9", "fill 0", "hand 0 4", "hand 2 -4"],
                     ["2", "1", "0", "4", "done", "done"])

    def test_undo(self):
        self.told_of(["undo"], ["no"])
        self.told_of(["cut 3", "undo", "dune", "undo", "undo"], ["2", "yes", "0 5 1", "no", "no"])
        self.told_of(["cut 3", "hand 3 1", "undo", "dune"], ["2", "refused NoPost", "yes", "0 5 1"])

    def test_dune_sand_steepest(self):
        self.told_of(["dune", "sand", "steepest"], ["0 5 1", "6", "5"])
        self.told_of(["hand 1 -15", "dune", "sand", "steepest"], ["done", "0 -10 1", "-9", "11"])
        self.told(answers(sheet("dune 7", "dune", "sand", "steepest", "may", "sure", "many", "core")),
                  ["7", "7", "0", "7 / 7", "yes", "1", "-"])

    def test_core_of_the_winds_behind_the_last_hand(self):
        self.told_of(["core", "cut 3", "cut 2", "fill 2", "core"], ["-", "2", "1", "0", "c2"])
        self.told_of(["fill 4", "cut 3", "core"], ["1", "1", "f4 c3"])
        self.told_of(["cut 3", "hand 0 1", "core", "fill 1", "core", "hand 9 1", "core"],
                     ["2", "done", "-", "2", "f1", "refused NoPost", "f1"])
        self.told_of(["cut 3", "hand 0 1", "undo", "core", "hand 0 1", "hand 1 1", "cut 0", "core"],
                     ["2", "done", "yes", "c3", "done", "done", "3", "c0"])

    def test_may_sure_many(self):
        self.told(answers(sheet("dune 0 4", "may", "sure", "many", "cut 1", "sure", "fill 0", "may", "sure", "many")),
                  ["0 4 / 0 4", "yes", "1", "3", "yes", "1", "1 1 / 4 4", "no", "2"])
        self.told(answers(sheet("dune 0 4", "cut 1", "hand 0 -3", "fill 0", "may", "sure", "many")),
                  ["3", "done", "4", "1 1 / 1 1", "yes", "1"])
        self.told(answers(sheet("dune 0 -4", "fill 1", "may")), ["3", "0 -1 / 0 -1"])

    def test_hands_at_posts_that_are_not_there(self):
        self.told_of(["hand 3 1", "hand 2 1", "hand 99999999999999999999 -1", "dune"],
                     ["refused NoPost", "done", "refused NoPost", "0 5 2"])

    def test_noughts(self):
        self.told_of(["cut 0", "fill 0", "hand 0 1", "hand 0 10", "hand 0 -10"], ["6", "0", "done", "done", "done"])
        for row in ("cut 00", "cut 03", "fill 01", "hand 00 1", "hand 01 1", "hand 0 01", "hand 0 -01", "hand 0 0",
                    "hand 0 -0", "hand 0 00", "cut -0", "fill -0"):
            self.bad(1, FIRST, row)
        for first in ("dune 00", "dune 01", "dune 1 -0", "dune -01", "dune 0 0 00"):
            self.bad(0, first)

    def test_numbers_below_0_where_plain_figures_are_told(self):
        for row in ("cut -1", "fill -3", "hand -1 2", "hand -0 2"):
            self.bad(1, FIRST, row)
        self.told_of(["hand 0 -2"], ["done"])

    def test_words_that_are_no_numbers(self):
        for bad in ("", "-", "+1", "1.0", "1e3", "1_0", "x", "0x1", "--1", "1-", "c1", "cut", ",", "'1'", " "):
            self.bad(0, f"dune {bad}")
            self.bad(0, f"dune 1 {bad}")
            for row in ("cut ", "fill ", "hand 0 "):
                self.bad(1, FIRST, row + bad)
            self.bad(1, FIRST, f"hand {bad} 1")

    def test_no_dune_first(self):
        for text in ("", "\n", " ", "dune", "dune ", "dune\n", "cut 3", "undo", "sand\ndune 0 1", "Dune 0", "dunes 0",
                     " dune 0", "dune  0", "dune 0 ", "dune 0  1", "0 5 1", "\ndune 0 5 1", "dune\t0", "dune0"):
            self.refused(BadRow, {"row": 0}, answers, text)

    def test_a_second_dune_with_heights(self):
        self.bad(1, FIRST, FIRST)
        self.bad(2, FIRST, "dune", "dune 1")
        self.bad(1, FIRST, "dune ")

    def test_empty_rows_and_blanks(self):
        self.bad(1, FIRST, "")
        self.bad(2, FIRST, "cut 3", "")
        self.bad(1, FIRST, "", "cut 3")
        for row in (" ", "cut  3", "cut 3 ", " cut 3", "hand 0  1", "hand  0 1", "undo ", " undo", "sand ", "may  ",
                    "cut 3\r", "cut\t3"):
            self.bad(1, FIRST, row)

    def test_other_rows(self):
        for row in ("cut", "fill", "hand", "hand 0", "hand 0 1 2", "cut 1 2", "fill 1 1", "undo 1", "undo undo", "Cut 1",
                    "CUT 1", "cuts 1", "c1", "f1", "blow 1", "do", "log", "twin", "first", "entries", "deeds", "is_sure",
                    "1", "-", "cut 1;fill 1", "hand 1", "redo", "sand 0", "core 1", "may 0", "sure 1", "many 2",
                    "steepest 1", "dune 0", "refused"):
            self.bad(1, FIRST, row)

    def test_the_first_bad_row_ahead_of_all(self):
        self.bad(3, FIRST, "cut 3", "hand 9 1", "cut x", "", "hand 0 0")
        self.bad(2, FIRST, "hand 9 1", "hand 0 0")
        self.bad(0, "dune x", "cut x")
        self.bad(99, FIRST, *["cut 3"] * 98, "cut")

    def test_very_long_numbers(self):
        long = "9" * 190
        self.told_of([f"cut {long}", f"fill {long}", f"hand 0 {long}", f"hand {long} 1", "steepest"],
                     ["0", "0", "done", "refused NoPost", str(int(long) - 5)])
        self.told(answers(sheet(f"dune -{long} {long}", "steepest", "sand", "cut 0", "dune")),
                  [str(2 * int(long)), "0", str(2 * int(long)), f"-{long} -{long}"])
        self.told(answers(sheet(f"dune 0 {'7' * 5000}", "steepest", "fill 1", "cut 0", "undo", "undo", "dune")),
                  ["7" * 5000, "7" * 4999 + "6", "1", "yes", "yes", "0 " + "7" * 5000])

    def test_by_name(self):
        self.told(answers(text="dune 1 2\nsand"), ["3"])

    def test_asked_twice(self):
        text = sheet(FIRST, "cut 3", "dune", "undo", "dune")
        one, other = answers(text), answers(text)
        one.append("spoiled")
        self.told(other, ["2", "0 3 1", "yes", "0 5 1"])
        self.told(answers(text), other)

    def test_asks_change_nothing(self):
        deeds = ["cut 3", "hand 0 4", "fill 1", "cut 2", "undo", "fill 0"]
        plain = answers(sheet(FIRST, *deeds))
        asked = [row for deed in deeds for row in (deed, *ASKS)]
        self.assertEqual(answers(sheet(FIRST, *asked))[::len(ASKS) + 1], plain)

    def test_as_a_yard_tells(self):
        each = ["cut 0", "cut 1", "cut 3", "cut 6", "fill 0", "fill 2", "fill 5", "hand 0 3", "hand 1 -4", "hand 2 12",
                "hand 3 1", "undo", "undo", *ASKS]
        for seed in range(60):
            heights = tuple([number - 5 for number in spread_numbers(seed, 3, 15)])
            rows = [each[number] for number in spread_numbers(seed + 1000, 25, len(each))]
            yard = Yard(heights)
            wanted = [yard_answer(yard, row) for row in rows]
            self.told(answers(sheet("dune " + dune_text(heights), *rows)), wanted)

    def test_bounds(self):
        first = "dune " + " ".join([str(BOUND if at % 2 else -BOUND) for at in range(16)])
        self.assertLessEqual(len(first), 200)
        rows = [f"{('cut', 'fill')[turn % 2]} {BOUND - turn}" for turn in range(80)]
        told = answers(sheet(first, *rows, "many", "may", "core", "sure", "dune", "steepest"))
        self.told(told[0], str(8 * BOUND))
        self.told(told[80], str(math.comb(80, 40)))
        self.told(told[82:84] + told[85:], [" ".join([f"{'cf'[turn % 2]}{BOUND - turn}" for turn in range(80)]), "no",
                                            str(BOUND - 79)])


if __name__ == "__main__":
    unittest.main()
