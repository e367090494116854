"""[2] and [3] of each function: how arguments are handed in, whose answers are."""

import copy
import itertools
import unittest

from dunebooks import almanacs, dunes, winds
from dunebooks.errors import NoPost
from samples import BOUND, shape, with_kind

DUNE = (0, 5, 1)
CUT = ("cut", 2)
FILL = ("fill", 2)
ALMANAC = [("cut", 3), ("fill", 2), ("cut", 2)]

# Each function with its arguments by the document's names, in the document's order, and what it tells.
ROWS = [
    (dunes.is_dune, {"thing": DUNE}, True),
    (dunes.steepest, {"dune": DUNE}, 5),
    (dunes.sand, {"dune": DUNE}, 6),
    (dunes.raised, {"dune": DUNE, "by": 2}, (2, 7, 3)),
    (dunes.raised, {"dune": DUNE, "by": 0}, DUNE),
    (dunes.mirrored, {"dune": DUNE}, (1, 5, 0)),
    (dunes.mirrored, {"dune": (4,)}, (4,)),
    (dunes.upside, {"dune": DUNE}, (0, -5, -1)),
    (dunes.handed, {"dune": DUNE, "post": 1, "by": 2}, (0, 7, 1)),
    (dunes.handed, {"dune": DUNE, "post": 2, "by": 0}, DUNE),
    (winds.is_wind, {"thing": CUT}, True),
    (winds.blown, {"dune": DUNE, "wind": CUT}, (0, 2, 1)),
    (winds.blown, {"dune": DUNE, "wind": FILL}, (3, 5, 3)),
    (winds.blown, {"dune": DUNE, "wind": ("cut", 9)}, DUNE),
    (winds.is_idle, {"dune": DUNE, "wind": CUT}, False),
    (winds.is_idle, {"dune": DUNE, "wind": ("fill", 5)}, True),
    (winds.contrary, {"wind": CUT}, FILL),
    (winds.contrary, {"wind": FILL}, CUT),
    (winds.sources, {"dune": DUNE, "wind": CUT}, (0, 0, 2)),
    (winds.sources, {"dune": DUNE, "wind": FILL}, (1, 1, 1)),
    (winds.shows_blown, {"dune": DUNE, "wind": CUT, "thing": ((0, 2, 1), (0, 0, 2))}, True),
    (winds.shows_blown, {"dune": DUNE, "wind": FILL, "thing": ((3, 5, 3), (1, 1, 1))}, True),
    (winds.shows_blown, {"dune": DUNE, "wind": CUT, "thing": ((0, 2, 1), (0, 1, 2))}, False),
    (almanacs.is_almanac, {"thing": ALMANAC}, True),
    (almanacs.behind, {"dune": DUNE, "almanac": ALMANAC}, (1, 3, 1)),
    (almanacs.behind, {"dune": DUNE, "almanac": []}, DUNE),
    (almanacs.amounts, {"dune": DUNE, "almanac": ALMANAC}, [(2, 0), (0, 1), (0, 0)]),
    (almanacs.amounts, {"dune": DUNE, "almanac": []}, []),
    (almanacs.idle_in, {"dune": DUNE, "almanac": ALMANAC}, [2]),
    (almanacs.idle_in, {"dune": DUNE, "almanac": []}, []),
    (almanacs.gentlest, {"almanac": ALMANAC}, 2),
    (almanacs.gentlest, {"almanac": []}, None),
    (almanacs.can_stand, {"dune": DUNE, "almanac": ALMANAC}, False),
    (almanacs.can_stand, {"dune": (0, 2, 1), "almanac": ALMANAC}, True),
    (almanacs.can_stand, {"dune": DUNE, "almanac": []}, True),
]


def each_row():
    """The rows, their arguments made anew so that no test sees what another did to them."""
    return [(function, copy.deepcopy(named), wanted) for function, named, wanted in ROWS]


def in_other_kinds(named):
    """The same arguments with lists only, with tuples only, and the kinds taking turns; a thing as it is."""
    told = []
    for kinds in itertools.product((list, tuple), repeat=2):
        other = {name: value if name == "thing" else with_kind(value, kinds[at % 2])
                 for at, (name, value) in enumerate(named.items())}
        told.append(other)
    mixed = {name: [list(wind) if at % 2 else wind for at, wind in enumerate(value)] if name == "almanac" else value
             for name, value in named.items()}
    return told + [mixed]


def spoil(value):
    """Changes each list of a told value."""
    if isinstance(value, (list, tuple)):
        for part in value:
            spoil(part)
    if isinstance(value, list):
        value.append("spoiled")
        value[0] = "spoiled"


class Handing(unittest.TestCase):
    def told(self, told, wanted):
        self.assertEqual(shape(told), shape(wanted))

    def test_by_place(self):
        for function, named, wanted in each_row():
            self.told(function(*named.values()), wanted)

    def test_by_name_in_any_order(self):
        for function, named, wanted in each_row():
            for names in itertools.permutations(named):
                self.told(function(**{name: named[name] for name in names}), wanted)

    def test_first_by_place_and_the_rest_by_name(self):
        for function, named, wanted in each_row():
            first, *rest = named
            self.told(function(named[first], **{name: named[name] for name in rest}), wanted)

    def test_lists_for_tuples_and_tuples_for_lists(self):
        for function, named, wanted in each_row():
            for other in in_other_kinds(named):
                self.told(function(**other), wanted)

    def test_but_not_in_a_thing(self):
        for function, named, wanted in each_row():
            if "thing" in named and wanted:
                kind = tuple if isinstance(named["thing"], list) else list
                named["thing"] = kind(named["thing"])
                self.told(function(**named), False)

    def test_what_is_handed_in_stays_as_it_was(self):
        for function, named, wanted in each_row():
            for other in in_other_kinds(named):
                before = copy.deepcopy(other)
                function(**other)
                self.told(list(other.values()), list(before.values()))

    def test_asked_twice_the_same_is_told(self):
        for function, named, wanted in each_row():
            self.told([function(**named), function(**named)], [wanted, wanted])

    def test_what_is_told_may_be_changed(self):
        for function, named, wanted in each_row():
            spoil(function(**named))
            told, again = function(**named), function(**named)
            self.told(told, wanted)
            spoil(told)
            self.told(again, wanted)

    def test_no_two_told_lists_are_one(self):
        for function, named, wanted in each_row():
            one, other = function(**named), function(**named)
            if isinstance(one, list):
                self.assertIsNot(one, other)
                self.assertIsNot(one, named.get("almanac"))

    def test_a_change_behind_is_not_seen(self):
        for function, named, wanted in each_row():
            other = in_other_kinds(copy.deepcopy(named))[0]
            told = function(**other)
            for value in other.values():
                spoil(value)
            self.told(told, wanted)
            self.told(function(**named), wanted)

    def test_things_stay_as_they_were(self):
        for function, thing in [(dunes.is_dune, [1, [2], (3,)]), (winds.is_wind, ["cut", [1]]),
                                (almanacs.is_almanac, [["cut", 1], ("fill", 2)])]:
            before = copy.deepcopy(thing)
            function(thing)
            self.told(thing, before)
        thing = ([0, 2, 1], [0, 0, 2])
        winds.shows_blown(DUNE, CUT, thing)
        self.told(thing, ([0, 2, 1], [0, 0, 2]))

    def test_a_refusal_changes_nothing(self):
        dune = [0, 5, 1]
        for post in (-1, 3):
            with self.assertRaises(NoPost) as told:
                dunes.handed(by=4, post=post, dune=dune)
            self.assertEqual(told.exception.post, post)
            self.assertEqual(dune, [0, 5, 1])

    def test_what_was_told_may_be_handed_in_again(self):
        dune = (BOUND, -BOUND) * 20
        for turn in range(50):
            dune = dunes.raised(dunes.handed(dune, 0, dunes.sand(dune)), 10 ** 12)
        slope = dunes.steepest(dune)
        self.assertGreater(slope, 2 * BOUND)
        for word in ("cut", "fill"):
            self.told(winds.blown(dune, (word, slope)), dune)
            self.assertNotEqual(winds.blown(dune, (word, slope - 1)), dune)
            after = winds.blown(dune, (word, 3))
            self.assertIs(winds.shows_blown(dune, (word, 3), (after, winds.sources(dune, (word, 3)))), True)


if __name__ == "__main__":
    unittest.main()
