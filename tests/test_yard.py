import copy
import unittest

from dunebooks.errors import NoDeed, NoPost
from dunebooks.yard import Yard
from samples import (BOUND, WORDS, Told, least_and_greatest, slow_done, slow_rows, spread_numbers)

DUNE = (0, 5, 1)


def notes(*words):
    """The log of deeds with these words, one behind the other."""
    return [pair for word in words for pair in (("in", word), ("out", word))]


class SlowYard:
    """A yard by the document's words: lists of entries that stand, and a log."""

    def __init__(self, dune):
        self.dune, self.deeds, self.log = dune, [], []

    def entries(self):
        return [entry for deed in self.deeds for entry in deed]

    def kept_by(self, word):
        return [entry for entry in self.entries() if entry[0] in (word, "hand")]

    def do(self, word, entries):
        """What the deed tells, or the refusal's post as a text."""
        told, now = [], slow_done(self.dune, self.entries())
        self.log += [("in", "do")] * (word == "do")
        for entry in entries:
            self.log += notes("hand" if entry[0] == "hand" else "blow")
            if entry[0] == "hand" and entry[1] not in range(len(self.dune)):
                self.log += [("out", "do")] * (word == "do")
                return f"NoPost {entry[1]}"
            after = slow_done(now, [entry])
            change = sum(after) - sum(now)
            told.append({"hand": None, "cut": (-change, 0), "fill": (0, change)}[entry[0]])
            now = after
        self.log += [("out", "do")] * (word == "do")
        self.deeds.append(entries)
        return told if word == "do" else told[0]

    def undo(self):
        self.log += notes("undo")
        return bool(self.deeds) and bool(self.deeds.pop() is not None)


def scripts():
    """Rows of deeds, undone and refused ones among them: (word, entries)."""
    each = [("cut", 0), ("cut", 2), ("cut", 4), ("fill", 1), ("fill", 3), ("fill", 0), ("hand", 0, 3), ("hand", 1, -4),
            ("hand", 2, 7), ("hand", 3, 1), ("hand", -1, 2), ("cut", 1), ("fill", 2)]
    told = []
    for seed in range(80):
        row = []
        for turn, number in enumerate(spread_numbers(seed, 10, 1000)):
            entry = each[number % len(each)]
            if number % 5 == 0:
                row.append(("undo", []))
            elif number % 7 == 0:
                row.append(("do", [each[(number + step * turn) % len(each)] for step in range(number % 4)]))
            else:
                row.append(("hand" if entry[0] == "hand" else "blow", [entry]))
        told.append(row)
    return told


def act(yard, word, entries):
    """Does one deed of a script; what it tells, or the refusal's post as a text."""
    try:
        if word == "undo":
            return yard.undo()
        if word == "do":
            return yard.do(entries)
        return yard.blow(*entries[0]) if word == "blow" else yard.hand(*entries[0][1:])
    except NoPost as refusal:
        return f"NoPost {refusal.post}"


class Deeds(Told):
    def test_blow(self):
        yard = Yard(DUNE)
        self.told(yard.blow("cut", 3), (2, 0))
        self.told(yard.blow("fill", 2), (0, 1))
        self.told(yard.blow("cut", 9), (0, 0))
        self.told(yard.blow("fill", 2), (0, 0))
        self.told(yard.dune(), (1, 3, 1))

    def test_hand(self):
        yard = Yard(DUNE)
        self.told(yard.hand(1, 4), None)
        self.told(yard.hand(0, -2), None)
        self.told(yard.dune(), (-2, 9, 1))
        for post in (-1, 3, 10 ** 30, -10 ** 30):
            self.refused(NoPost, {"post": post}, yard.hand, post, 1)
        self.told(yard.dune(), (-2, 9, 1))
        self.told(yard.deeds(), 2)

    def test_do(self):
        yard = Yard(DUNE)
        self.told(yard.do([("cut", 3), ("hand", 0, 2), ("fill", 1)]), [(2, 0), None, (0, 1)])
        self.told(yard.dune(), (2, 3, 2))
        self.told(yard.deeds(), 1)
        self.told(yard.entries(), [("cut", 3), ("hand", 0, 2), ("fill", 1)])

    def test_do_of_none_and_of_one(self):
        yard = Yard(DUNE)
        self.told(yard.do([]), [])
        self.told((yard.deeds(), yard.entries(), yard.dune()), (1, [], DUNE))
        self.told(yard.do([("cut", 3)]), [(2, 0)])
        self.told(yard.do([("hand", 0, 1)]), [None])
        self.told((yard.deeds(), yard.entries()), (3, [("cut", 3), ("hand", 0, 1)]))

    def test_a_refused_do_does_none(self):
        yard = Yard(DUNE)
        yard.blow("cut", 4)
        for post in (-1, 3):
            entries = [("fill", 1), ("hand", 0, 2), ("hand", post, 2), ("cut", 0), ("hand", 77, 1)]
            self.refused(NoPost, {"post": post}, yard.do, entries)
            self.refused(NoPost, {"post": post}, yard.do, entries[2:3])
        self.told((yard.dune(), yard.entries(), yard.deeds()), ((0, 4, 1), [("cut", 4)], 1))
        self.told(yard.undo(), True)
        self.told(yard.dune(), DUNE)

    def test_undo(self):
        yard = Yard(DUNE)
        self.told(yard.undo(), False)
        yard.blow("cut", 3)
        yard.hand(0, 4)
        self.told([yard.undo(), yard.dune()], [True, (0, 3, 1)])
        self.told([yard.undo(), yard.dune()], [True, DUNE])
        self.told([yard.undo(), yard.undo(), yard.dune()], [False, False, DUNE])

    def test_undo_of_a_do_takes_all_of_it(self):
        yard = Yard(DUNE)
        yard.blow("cut", 3)
        yard.do([("fill", 0), ("hand", 0, 1), ("hand", 2, 9)])
        yard.do([])
        self.told([yard.undo(), yard.deeds(), yard.dune()], [True, 2, (4, 3, 12)])
        self.told([yard.undo(), yard.entries(), yard.dune()], [True, [("cut", 3)], (0, 3, 1)])

    def test_undo_behind_a_refusal_takes_the_last_that_stands(self):
        yard = Yard(DUNE)
        yard.blow("cut", 3)
        yard.blow("fill", 0)
        self.refused(NoPost, {"post": 5}, yard.hand, 5, 1)
        self.refused(NoPost, {"post": 5}, yard.do, [("cut", 0), ("hand", 5, 1)])
        self.told([yard.undo(), yard.entries()], [True, [("cut", 3)]])

    def test_many_deeds_and_again_behind_undo(self):
        yard = Yard(DUNE)
        for turn in range(3):
            yard.blow("cut", 2)
            yard.undo()
            yard.hand(1, 1)
        self.told((yard.entries(), yard.dune()), ([("hand", 1, 1)] * 3, (0, 8, 1)))


class Asks(Told):
    def test_a_new_yard(self):
        yard = Yard(DUNE)
        self.told((yard.dune(), yard.first(), yard.entries(), yard.deeds(), yard.log()), (DUNE, DUNE, [], 0, []))
        self.told((yard.kept_by("cut"), yard.kept_by("fill"), yard.may(), yard.is_sure()), ([], [], (DUNE, DUNE), True))

    def test_one_post(self):
        yard = Yard((5,))
        yard.do([("cut", 0), ("fill", 0), ("hand", 0, -2)])
        self.told((yard.dune(), yard.may(), yard.is_sure()), ((3,), ((3,), (3,)), True))

    def test_first_stays(self):
        yard = Yard(DUNE)
        yard.blow("cut", 0)
        yard.hand(0, 9)
        self.told(yard.first(), DUNE)

    def test_kept_by(self):
        yard = Yard(DUNE)
        yard.do([("cut", 3), ("hand", 0, 1), ("fill", 2)])
        yard.blow("fill", 2)
        self.told(yard.kept_by("cut"), [("cut", 3), ("hand", 0, 1)])
        self.told(yard.kept_by("fill"), [("hand", 0, 1), ("fill", 2), ("fill", 2)])

    def test_may_and_is_sure(self):
        yard = Yard((0, 4))
        yard.blow("cut", 1)
        self.told((yard.may(), yard.is_sure()), (((0, 1), (0, 1)), True))
        yard.blow("fill", 0)
        self.told((yard.dune(), yard.may(), yard.is_sure()), ((1, 1), ((1, 1), (4, 4)), False))
        yard.undo()
        yard.hand(0, 1)
        yard.blow("fill", 0)
        self.told((yard.may(), yard.is_sure()), (((1, 1), (1, 1)), True))

    def test_is_sure_asks_both_ends(self):
        least, greatest = Yard((0, 4)), Yard((0, 4))
        least.do([("cut", 1), ("fill", 0)])
        greatest.do([("fill", 0), ("cut", 1)])
        self.told((least.dune(), greatest.dune()), least.may())
        self.told(least.may(), greatest.may())
        self.told((least.is_sure(), greatest.is_sure()), (False, False))

    def test_as_of(self):
        yard = Yard(DUNE)
        yard.blow("cut", 3)
        yard.do([("hand", 0, 2), ("fill", 1)])
        yard.do([])
        yard.hand(2, 5)
        ends = [DUNE, (0, 3, 1), (2, 3, 2), (2, 3, 2), (2, 3, 7)]
        for many, dune in enumerate(ends):
            other = yard.as_of(many)
            self.assertIs(type(other), Yard)
            self.told((other.dune(), other.first(), other.deeds(), other.log()), (dune, DUNE, many, []))
            self.told(other.entries(), yard.entries()[:[0, 1, 3, 3, 4][many]])
        for many in (-1, 5, 10 ** 30, -10 ** 30):
            self.refused(NoDeed, {"many": many}, yard.as_of, many)
        self.told((yard.deeds(), yard.dune()), (4, ends[-1]))

    def test_as_of_a_new_yard(self):
        self.assertEqual(Yard(DUNE).as_of(0), Yard(DUNE))
        self.refused(NoDeed, {"many": 1}, Yard(DUNE).as_of, 1)
        self.refused(NoDeed, {"many": -1}, Yard(DUNE).as_of, -1)

    def test_as_of_counts_the_deeds_that_stand(self):
        yard = Yard(DUNE)
        yard.blow("cut", 3)
        yard.undo()
        yard.hand(0, 1)
        self.told(yard.as_of(1).entries(), [("hand", 0, 1)])
        self.refused(NoDeed, {"many": 2}, yard.as_of, 2)

    def test_as_of_can_be_undone_deed_by_deed(self):
        yard = Yard(DUNE)
        yard.do([("hand", 0, 2), ("fill", 1)])
        yard.do([])
        yard.blow("cut", 0)
        other = yard.as_of(2)
        self.told([other.undo(), other.deeds(), other.entries()], [True, 1, [("hand", 0, 2), ("fill", 1)]])
        self.told([other.undo(), other.undo(), other.dune()], [True, False, DUNE])
        self.told((yard.deeds(), other.log()), (3, notes("undo", "undo", "undo")))

    def test_twin_goes_its_own_way(self):
        yard = Yard(DUNE)
        yard.blow("cut", 3)
        yard.blow("fill", 2)
        twin = yard.twin()
        self.assertEqual(twin, yard)
        self.told((twin.log(), twin.deeds(), yard.log()), ([], 2, notes("blow", "blow")))
        twin.hand(0, 7)
        self.told((yard.dune(), yard.deeds()), ((1, 3, 1), 2))
        yard.undo()
        yard.undo()
        self.told((twin.dune(), twin.deeds(), twin.log()), ((8, 3, 1), 3, notes("hand")))
        self.assertNotEqual(twin, yard)
        self.told(yard.log(), notes("blow", "blow", "undo", "undo"))

    def test_two_twins(self):
        yard = Yard(DUNE)
        one, other = yard.twin(), yard.twin()
        one.blow("cut", 0)
        self.told((other.dune(), yard.dune(), yard.twin().dune()), (DUNE, DUNE, DUNE))


class Log(Told):
    def test_each_deed(self):
        yard = Yard(DUNE)
        yard.blow("cut", 3)
        yard.hand(0, 1)
        yard.undo()
        self.told(yard.log(), notes("blow", "hand", "undo"))

    def test_do_and_what_is_in_it(self):
        yard = Yard(DUNE)
        yard.do([])
        yard.do([("cut", 3), ("hand", 0, 1), ("fill", 1)])
        self.told(yard.log(), notes("do") + [("in", "do")] + notes("blow", "hand", "blow") + [("out", "do")])

    def test_refused_ones(self):
        yard = Yard(DUNE)
        self.refused(NoPost, {"post": 3}, yard.hand, 3, 1)
        self.told(yard.log(), notes("hand"))
        self.refused(NoPost, {"post": 3}, yard.do, [("cut", 3), ("hand", 3, 1), ("fill", 1)])
        self.told(yard.log(), notes("hand") + [("in", "do")] + notes("blow", "hand") + [("out", "do")])

    def test_undo_that_tells_false(self):
        yard = Yard(DUNE)
        yard.undo()
        self.told(yard.log(), notes("undo"))

    def test_undo_takes_nothing_from_it(self):
        yard = Yard(DUNE)
        yard.do([("cut", 3)])
        yard.undo()
        self.told(yard.log(), [("in", "do")] + notes("blow") + [("out", "do")] + notes("undo"))

    def test_asks_are_not_in_it(self):
        yard = Yard(DUNE)
        for ask in (yard.dune, yard.first, yard.entries, yard.may, yard.is_sure, yard.deeds, yard.twin, yard.log):
            ask()
        yard.kept_by("cut")
        yard.as_of(0)
        self.refused(NoDeed, {"many": 1}, yard.as_of, 1)
        self.told((len(yard), repr(yard), yard == Yard(DUNE)), (3, "Yard(3 posts, 0 entries)", True))
        self.told(yard.log(), [])


class Signs(Told):
    def test_equal_ones(self):
        one, other = Yard(DUNE), Yard([0, 5, 1])
        self.assertTrue(one == other and not one != other)
        one.do([("cut", 3), ("hand", 0, 1)])
        self.assertTrue(one != other and not one == other)
        other.blow("cut", 3)
        self.assertNotEqual(one, other)
        other.hand(0, 1)
        self.assertEqual(one, other)
        other.undo()
        one.undo()
        self.assertNotEqual(one, other)

    def test_deeds_of_none_and_logs_do_not_count(self):
        one, other = Yard(DUNE), Yard(DUNE)
        one.do([])
        other.blow("cut", 1)
        other.undo()
        self.assertEqual(one, other)

    def test_first_counts_and_the_dune_alone_does_not(self):
        one, other = Yard((0, 5)), Yard((0, 4))
        one.blow("cut", 3)
        other.blow("cut", 3)
        self.assertEqual(one.dune(), other.dune())
        self.assertNotEqual(one, other)
        self.assertNotEqual(Yard((0, 5)), Yard((0, 5, 5)))
        one, other = Yard((0, 5)), Yard((0, 5))
        one.blow("cut", 5)
        self.assertNotEqual(one, other)

    def test_entries_count_in_their_order(self):
        one, other = Yard((4, 4)), Yard((4, 4))
        one.do([("cut", 1), ("fill", 1)])
        other.do([("fill", 1), ("cut", 1)])
        self.assertNotEqual(one, other)

    def test_nothing_else_is_equal(self):
        for other in (None, True, 0, 3, "Yard(3 posts, 0 entries)", DUNE, list(DUNE), [], (), (DUNE, []), [DUNE]):
            self.assertIs(Yard(DUNE) == other, False)
            self.assertIs(other == Yard(DUNE), False)
            self.assertIs(Yard(DUNE) != other, True)

    def test_len_and_repr(self):
        yard = Yard((5,))
        self.told((len(yard), repr(yard)), (1, "Yard(1 posts, 0 entries)"))
        yard.blow("cut", 1)
        self.told((len(yard), repr(yard)), (1, "Yard(1 posts, 1 entries)"))
        yard = Yard(DUNE)
        yard.do([("cut", 3)] * 4)
        yard.hand(0, 1)
        yard.do([])
        self.told((len(yard), repr(yard)), (3, "Yard(3 posts, 5 entries)"))
        self.assertEqual(f"{yard}", "Yard(3 posts, 5 entries)")


class Anew(Told):
    def as_told(self, yard):
        """All that a yard tells of itself, but its log and how its entries are deeds."""
        return [yard.dune(), yard.first(), yard.entries(), [yard.kept_by(word) for word in WORDS], yard.may(),
                yard.is_sure(), len(yard), repr(yard)]

    def compare(self, yard, slow):
        rows = slow_rows(slow.kept_by("cut"), slow.kept_by("fill"))
        dune = slow_done(slow.dune, slow.entries())
        ends = least_and_greatest([slow_done(slow.dune, row) for row in rows[:300]])
        self.told(yard.dune(), dune)
        self.told(yard.first(), slow.dune)
        self.told(yard.entries(), slow.entries())
        self.told([yard.kept_by(word) for word in WORDS], [slow.kept_by(word) for word in WORDS])
        if len(rows) <= 300:
            self.told(yard.may(), ends)
            self.told(yard.is_sure(), ends == (dune, dune))
        self.told(yard.deeds(), len(slow.deeds))
        self.told(yard.log(), slow.log)
        anew = Yard(slow.dune)
        anew.do(slow.entries())
        self.told(self.as_told(yard), self.as_told(anew))
        self.assertEqual(yard, anew)

    def test_scripts(self):
        seen = set()
        for script in scripts():
            yard, slow = Yard(DUNE), SlowYard(DUNE)
            for word, entries in script:
                wanted = slow.undo() if word == "undo" else slow.do(word, entries)
                self.told(act(yard, word, entries), wanted)
                self.compare(yard, slow)
                seen.add((word, isinstance(wanted, str), wanted is False, yard.is_sure()))
            for many in range(len(slow.deeds) + 1):
                entries = [entry for deed in slow.deeds[:many] for entry in deed]
                other = yard.as_of(many)
                self.told((other.entries(), other.dune(), other.deeds(), other.log()),
                          (entries, slow_done(DUNE, entries), many, []))
        words = {row[:3] for row in seen}
        self.assertTrue({("hand", True, False), ("do", True, False), ("undo", False, True), ("do", False, False),
                         ("undo", False, False), ("blow", False, False), ("hand", False, False)} <= words, words)
        self.assertEqual({row[3] for row in seen}, {True, False})

    def test_bounds(self):
        dune = (-BOUND, BOUND, 0, 7) * 10
        yard = Yard(dune)
        for turn in range(60):
            if turn % 10 == 9:
                yard.hand(39 - turn // 2, (-1) ** turn * BOUND)
            else:
                yard.blow(WORDS[turn % 2], BOUND - turn * 10 ** 7)
        self.told(yard.deeds(), 60)
        self.told(yard.dune(), slow_done(dune, yard.entries()))
        least, greatest = yard.may()
        self.assertTrue(all(low <= here <= high for low, here, high in zip(least, yard.dune(), greatest)))
        self.told(repr(yard), "Yard(40 posts, 60 entries)")
        while yard.undo():
            self.told(yard.dune(), slow_done(dune, yard.entries()))
        self.told(yard.dune(), dune)
        self.assertEqual(len(yard.log()), 2 * 121)


class Handing(Told):
    def test_by_name_in_any_order(self):
        yard = Yard(dune=DUNE)
        self.told(yard.blow(slope=3, word="cut"), (2, 0))
        self.told(yard.blow(word="fill", slope=2), (0, 1))
        self.told(yard.hand(by=4, post=0), None)
        self.told(yard.do(deeds=[("cut", 0)]), [(6, 0)])
        self.told(yard.kept_by(word="fill"), [("fill", 2), ("hand", 0, 4)])
        self.told(yard.as_of(many=1).entries(), [("cut", 3)])

    def test_lists_for_tuples_and_tuples_for_lists(self):
        yard = Yard([0, 5, 1])
        self.told(yard.do((["cut", 3], ("hand", 0, 2), ["hand", 1, 1])), [(2, 0), None, None])
        self.told(yard.entries(), [("cut", 3), ("hand", 0, 2), ("hand", 1, 1)])
        self.told((yard.first(), yard.dune()), (DUNE, (2, 4, 1)))
        self.refused(NoPost, {"post": 9}, yard.do, (["cut", 3], ["hand", 9, 2]))
        self.told(yard.do(()), [])

    def test_a_change_behind_is_not_seen(self):
        dune, deeds = [0, 5, 1], [["cut", 3], ["hand", 0, 2]]
        before = copy.deepcopy(deeds)
        yard = Yard(dune)
        yard.do(deeds)
        self.told((dune, deeds), ([0, 5, 1], before))
        dune[1] = 99
        dune.append(7)
        deeds[0][1] = 0
        deeds.append(["cut", 0])
        self.told((yard.first(), yard.entries(), yard.dune()), (DUNE, [("cut", 3), ("hand", 0, 2)], (2, 3, 1)))

    def test_a_refused_do_leaves_what_is_handed_in(self):
        deeds = [["cut", 3], ["hand", 8, 2]]
        self.refused(NoPost, {"post": 8}, Yard(DUNE).do, deeds)
        self.told(deeds, [["cut", 3], ["hand", 8, 2]])

    def test_what_is_told_is_the_askers_own(self):
        yard = Yard(DUNE)
        asks = [yard.entries, yard.log, lambda: yard.kept_by("cut"), lambda: yard.kept_by("fill")]
        for told in (yard.do([("cut", 3), ("hand", 0, 1)]), yard.do([])):
            told.append("spoiled")
        wanted = [ask() for ask in asks]
        for ask in asks:
            one, other = ask(), ask()
            self.assertIsNot(one, other)
            one.clear()
            one.append("spoiled")
        self.told([ask() for ask in asks], wanted)
        self.told((yard.dune(), yard.deeds()), ((1, 3, 1), 2))

    def test_its_own_entries_may_be_handed_in_again(self):
        yard = Yard(DUNE)
        yard.do([("cut", 3), ("hand", 0, 1)])
        yard.do(yard.entries())
        self.told(yard.entries(), [("cut", 3), ("hand", 0, 1)] * 2)
        anew = Yard(yard.dune())
        self.told(anew.first(), (2, 3, 1))

    def test_two_yards_of_one_dune(self):
        dune = [0, 5, 1]
        one, other = Yard(dune), Yard(dune)
        one.blow("cut", 0)
        self.told((other.dune(), other.log(), dune), (DUNE, [], [0, 5, 1]))


if __name__ == "__main__":
    unittest.main()
