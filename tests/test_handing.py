"""[2] and [3] of each function: how arguments are handed in, whose answers are."""

import copy
import itertools
import unittest

from dunebooks import (almanacs, beside, between, bookcores, cores, desk, dunes, longbooks, orders, plays, sure, texts,
                       torn, winds)
from dunebooks.errors import Against, Astray, BadRow, BadText, Clash, NoCore, NoOrder, NoPost, TooMany, Unlike
from samples import BOUND, shape, with_kind

DUNE = (0, 5, 1)
CUT = ("cut", 2)
FILL = ("fill", 2)
ALMANAC = [("cut", 3), ("fill", 2), ("cut", 2)]
BOOKS = {"cuts": [3, 2], "fills": [2, 1]}
BARE_BOOKS = {"cuts": [], "fills": []}
WORDS = [("cut", 0, 1), ("fill", 1, 0)]
TOLD_BOOKS = {**BOOKS, "words": WORDS}
BARE_TOLD = {**BARE_BOOKS, "words": []}
HAND = ("hand", 0, 4)
CUTTER = [("cut", 3), HAND, ("cut", 1)]
FILLER = [HAND, ("fill", 1)]
KEPT = {"cutter": CUTTER, "filler": FILLER}
ENTRIES = [("cut", 3), ("fill", 4), HAND, ("fill", 2), ("cut", 2)]
PLAY = [(0, 0, 2), (), (0, 1, 2)]
MANY_BOOKS = {"cuts": [9, 8, 7, 6, 5, 4, 3, 2, 1], "fills": [9, 8, 7, 6, 5, 4, 3, 2, 1]}
CLASH = [("cut", 0, 0), ("cut", 1, 1), ("fill", 1, 1), ("fill", 0, 0)]

# Each function with its arguments by the document's names, in the document's order, and what it tells.
ROWS = [
    (dunes.is_dune, {"thing": DUNE}, True),
    (dunes.steepest, {"dune": DUNE}, 5),
    (dunes.sand, {"dune": DUNE}, 6),
    (dunes.raised, {"dune": DUNE, "by": 2}, (2, 7, 3)),
    (dunes.raised, {"dune": DUNE, "by": 0}, DUNE),
    (dunes.mirrored, {"dune": DUNE}, (1, 5, 0)),
    (dunes.mirrored, {"dune": (4,)}, (4,)),
    (dunes.upside, {"dune": DUNE}, (0, -5, -1)),
    (dunes.handed, {"dune": DUNE, "post": 1, "by": 2}, (0, 7, 1)),
    (dunes.handed, {"dune": DUNE, "post": 2, "by": 0}, DUNE),
    (winds.is_wind, {"thing": CUT}, True),
    (winds.blown, {"dune": DUNE, "wind": CUT}, (0, 2, 1)),
    (winds.blown, {"dune": DUNE, "wind": FILL}, (3, 5, 3)),
    (winds.blown, {"dune": DUNE, "wind": ("cut", 9)}, DUNE),
    (winds.is_idle, {"dune": DUNE, "wind": CUT}, False),
    (winds.is_idle, {"dune": DUNE, "wind": ("fill", 5)}, True),
    (winds.contrary, {"wind": CUT}, FILL),
    (winds.contrary, {"wind": FILL}, CUT),
    (winds.sources, {"dune": DUNE, "wind": CUT}, (0, 0, 2)),
    (winds.sources, {"dune": DUNE, "wind": FILL}, (1, 1, 1)),
    (winds.shows_blown, {"dune": DUNE, "wind": CUT, "thing": ((0, 2, 1), (0, 0, 2))}, True),
    (winds.shows_blown, {"dune": DUNE, "wind": FILL, "thing": ((3, 5, 3), (1, 1, 1))}, True),
    (winds.shows_blown, {"dune": DUNE, "wind": CUT, "thing": ((0, 2, 1), (0, 1, 2))}, False),
    (almanacs.is_almanac, {"thing": ALMANAC}, True),
    (almanacs.behind, {"dune": DUNE, "almanac": ALMANAC}, (1, 3, 1)),
    (almanacs.behind, {"dune": DUNE, "almanac": []}, DUNE),
    (almanacs.amounts, {"dune": DUNE, "almanac": ALMANAC}, [(2, 0), (0, 1), (0, 0)]),
    (almanacs.amounts, {"dune": DUNE, "almanac": []}, []),
    (almanacs.idle_in, {"dune": DUNE, "almanac": ALMANAC}, [2]),
    (almanacs.idle_in, {"dune": DUNE, "almanac": []}, []),
    (almanacs.gentlest, {"almanac": ALMANAC}, 2),
    (almanacs.gentlest, {"almanac": []}, None),
    (almanacs.can_stand, {"dune": DUNE, "almanac": ALMANAC}, False),
    (almanacs.can_stand, {"dune": (0, 2, 1), "almanac": ALMANAC}, True),
    (almanacs.can_stand, {"dune": DUNE, "almanac": []}, True),
    (cores.core, {"almanac": ALMANAC}, [("cut", 3), ("fill", 2)]),
    (cores.core, {"almanac": ALMANAC[:2]}, ALMANAC[:2]),
    (cores.core, {"almanac": []}, []),
    (cores.is_core, {"thing": ALMANAC[:2]}, True),
    (cores.is_core, {"thing": ALMANAC}, False),
    (cores.alike, {"one": ALMANAC, "other": ALMANAC[:2]}, True),
    (cores.alike, {"one": ALMANAC, "other": ALMANAC[1:]}, False),
    (cores.parting, {"one": ALMANAC, "other": ALMANAC[1:]}, 4),
    (cores.parting, {"one": ALMANAC, "other": ALMANAC[:2]}, None),
    (cores.shows_parting, {"one": ALMANAC, "other": ALMANAC[1:], "thing": 9}, True),
    (cores.shows_parting, {"one": ALMANAC, "other": ALMANAC[1:], "thing": 3}, False),
    (orders.is_order, {**BOOKS, "thing": "cffc"}, True),
    (orders.is_order, {**BOOKS, "thing": ["c", "f", "f", "c"]}, False),
    (orders.almanac_of, {**BOOKS, "order": "cffc"}, [("cut", 3), ("fill", 2), ("fill", 1), ("cut", 2)]),
    (orders.almanac_of, {**BARE_BOOKS, "order": ""}, []),
    (orders.books_of, {"almanac": ALMANAC}, ([3, 2], [2])),
    (orders.books_of, {"almanac": []}, ([], [])),
    (orders.order_of, {"almanac": ALMANAC}, "cfc"),
    (orders.order_of, {"almanac": []}, ""),
    (orders.holds, {"order": "cffc", "words": WORDS}, True),
    (orders.holds, {"order": "ccff", "words": WORDS}, False),
    (orders.bounds, TOLD_BOOKS, [(0, 1), (1, 2)]),
    (orders.bounds, BARE_TOLD, []),
    (orders.orders_many, TOLD_BOOKS, 4),
    (orders.orders_many, BARE_TOLD, 1),
    (orders.order_at, {**TOLD_BOOKS, "number": 2}, "fccf"),
    (orders.order_at, {**BARE_TOLD, "number": 0}, ""),
    (orders.number_of, {**TOLD_BOOKS, "order": "fcfc"}, 3),
    (orders.number_of, {**BARE_TOLD, "order": ""}, 0),
    (between.least_order, TOLD_BOOKS, "cfcf"),
    (between.least_order, BARE_TOLD, ""),
    (between.greatest_order, TOLD_BOOKS, "fcfc"),
    (between.greatest_order, BARE_TOLD, ""),
    (between.may_stand, {"dune": DUNE, **TOLD_BOOKS}, ((2, 3, 2), (4, 5, 4))),
    (between.may_stand, {"dune": DUNE, **BARE_TOLD}, (DUNE, DUNE)),
    (between.sure_posts, {"dune": (5, 5, 6), **TOLD_BOOKS}, [0, 1, 2]),
    (between.sure_posts, {"dune": DUNE, **TOLD_BOOKS}, []),
    (between.sure_posts, {"dune": DUNE, **BARE_TOLD}, [0, 1, 2]),
    (bookcores.cores_many, BOOKS, 3),
    (bookcores.cores_many, BARE_BOOKS, 1),
    (bookcores.cores_many, MANY_BOOKS, 512),
    (bookcores.cores_all, BOOKS, [[("cut", 2), ("fill", 1)], [("cut", 3), ("fill", 1)], [("fill", 1)]]),
    (bookcores.cores_all, BARE_BOOKS, [[]]),
    (bookcores.order_for, {**BOOKS, "core": [("cut", 3), ("fill", 1)]}, "cfcf"),
    (bookcores.order_for, {**BARE_BOOKS, "core": []}, ""),
    (bookcores.order_to, {"dune": DUNE, **BOOKS, "told": (4, 5, 4)}, "fccf"),
    (bookcores.order_to, {"dune": DUNE, **BOOKS, "told": (4, 5, 5)}, None),
    (bookcores.order_to, {"dune": DUNE, **BARE_BOOKS, "told": DUNE}, ""),
    (bookcores.ends_all, {"dune": DUNE, **BOOKS}, [(1, 2, 1), (2, 3, 2), (4, 5, 4)]),
    (bookcores.ends_all, {"dune": DUNE, **BARE_BOOKS}, [DUNE]),
    (sure.corners, {"order": "cfcf"}, [("cut", 0, 0), ("fill", 1, 0), ("cut", 1, 1)]),
    (sure.corners, {"order": ""}, []),
    (sure.is_enough, {"dune": DUNE, **TOLD_BOOKS}, False),
    (sure.is_enough, {"dune": DUNE, **BARE_TOLD}, True),
    (sure.is_enough, {"dune": DUNE, **BOOKS, "words": [("cut", 0, 0), ("fill", 1, 0)]}, True),
    (sure.fewest_words, {"dune": DUNE, **BOOKS, "order": "cfcf"}, [("cut", 0, 0), ("fill", 1, 0)]),
    (sure.fewest_words, {"dune": DUNE, **BARE_BOOKS, "order": ""}, []),
    (plays.held, {"dune": DUNE, "almanac": ALMANAC, "word": "cut", "play": PLAY}, (1, 3, 1)),
    (plays.held, {"dune": DUNE, "almanac": [], "word": "cut", "play": []}, DUNE),
    (plays.best_play, {"dune": DUNE, "almanac": ALMANAC, "word": "cut"}, [(0, 0, 2), (), (0, 0, 2)]),
    (plays.best_play, {"dune": DUNE, "almanac": [], "word": "fill"}, []),
    (plays.shows_most, {"dune": DUNE, "almanac": ALMANAC, "post": 1, "height": 3, "thing": PLAY}, True),
    (plays.shows_most, {"dune": DUNE, "almanac": ALMANAC, "post": 1, "height": 2, "thing": PLAY}, False),
    (plays.shows_least, {"dune": DUNE, "almanac": ALMANAC, "post": 0, "height": 1, "thing": [(), (1, 1, 1), ()]}, True),
    (plays.shows_least, {"dune": DUNE, "almanac": ALMANAC, "post": 0, "height": 2, "thing": [(), (1, 1, 1), ()]}, False),
    (torn.slopes_for, {"dune": DUNE, "ahead": [("cut", 4)], "word": "fill", "later": [("cut", 2), ("fill", 3)],
                       "told": (1, 3, 1)}, (3, 3)),
    (torn.slopes_for, {"dune": DUNE, "ahead": [], "word": "cut", "later": [], "told": DUNE}, (5, None)),
    (torn.slopes_for, {"dune": DUNE, "ahead": [], "word": "cut", "later": [], "told": (0, 5, 2)}, None),
    (torn.fits_torn, {"dune": DUNE, "ahead": [("cut", 4)], "later": [("cut", 3), ("fill", 3)], "told": (0, 3, 1)},
     ["cut", "fill"]),
    (torn.fits_torn, {"dune": DUNE, "ahead": [], "later": [], "told": (0, 5, 2)}, []),
    (longbooks.done, {"dune": DUNE, "entries": ENTRIES}, (4, 3, 1)),
    (longbooks.done, {"dune": DUNE, "entries": []}, DUNE),
    (longbooks.kept_by, {"entries": ENTRIES, "word": "cut"}, [("cut", 3), HAND, ("cut", 2)]),
    (longbooks.kept_by, {"entries": [], "word": "fill"}, []),
    (longbooks.idle_for_all, {"entries": ENTRIES}, [1, 4]),
    (longbooks.idle_for_all, {"entries": []}, []),
    (longbooks.stretches, KEPT, [([3], [], HAND), ([1], [1], None)]),
    (longbooks.stretches, {"cutter": [], "filler": []}, [([], [], None)]),
    (longbooks.long_may, {"dune": DUNE, **KEPT}, ((3, 2, 1), (4, 3, 2))),
    (longbooks.long_may, {"dune": DUNE, "cutter": [], "filler": []}, (DUNE, DUNE)),
    (longbooks.long_many, KEPT, 2),
    (longbooks.long_many, {"cutter": [], "filler": []}, 1),
    (beside.width, {"one": DUNE, "other": (2, 2, 1)}, 3),
    (beside.widest, {"one": DUNE, "other": (2, 2, 1)}, 1),
    (beside.is_below, {"one": DUNE, "other": (2, 5, 1)}, True),
    (beside.is_below, {"one": DUNE, "other": (2, 2, 1)}, False),
    (beside.widths, {"one": DUNE, "other": (2, 2, 1), "almanac": ALMANAC}, [3, 2, 1, 1]),
    (beside.widths, {"one": DUNE, "other": (2, 2, 1), "almanac": []}, [3]),
    (beside.felt, {"dune": DUNE, "almanac": ALMANAC, "post": 0, "by": 3}, (2, 1, 1)),
    (beside.felt, {"dune": DUNE, "almanac": [], "post": 0, "by": 3}, (3, 0, 0)),
    (texts.dune_text, {"dune": DUNE}, "0 5 1"),
    (texts.almanac_text, {"almanac": ALMANAC}, "c3 f2 c2"),
    (texts.almanac_text, {"almanac": []}, "-"),
    (texts.dune_in, {"text": "0 5 1"}, DUNE),
    (texts.almanac_in, {"text": "c3 f2 c2"}, ALMANAC),
    (texts.almanac_in, {"text": "-"}, []),
    (desk.answers, {"text": "dune 0 5 1\ncut 3\nhand 7 1\nmay"}, ["2", "refused NoPost", "0 3 1 / 0 3 1"]),
    (desk.answers, {"text": "dune 0 5 1"}, []),
]

# Each function that refuses, with arguments that it refuses, the refusal's class, its field and what that tells.
REFUSED = [
    (dunes.handed, {"dune": DUNE, "post": -1, "by": 4}, NoPost, "post", -1),
    (dunes.handed, {"dune": DUNE, "post": 3, "by": 4}, NoPost, "post", 3),
    (orders.bounds, {**BOOKS, "words": CLASH}, Clash, "places", (0, 3)),
    (orders.orders_many, {**BOOKS, "words": CLASH}, Clash, "places", (0, 3)),
    (orders.order_at, {**BOOKS, "words": CLASH, "number": 0}, Clash, "places", (0, 3)),
    (orders.order_at, {**BOOKS, "words": CLASH, "number": -1}, Clash, "places", (0, 3)),
    (orders.order_at, {**TOLD_BOOKS, "number": -1}, NoOrder, "number", -1),
    (orders.order_at, {**TOLD_BOOKS, "number": 4}, NoOrder, "number", 4),
    (orders.number_of, {**BOOKS, "words": CLASH, "order": "ffcc"}, Clash, "places", (0, 3)),
    (orders.number_of, {**TOLD_BOOKS, "order": "ffcc"}, Against, "place", 0),
    (orders.number_of, {**TOLD_BOOKS, "order": "ccff"}, Against, "place", 1),
    (between.least_order, {**BOOKS, "words": CLASH}, Clash, "places", (0, 3)),
    (between.greatest_order, {**BOOKS, "words": CLASH}, Clash, "places", (0, 3)),
    (between.may_stand, {"dune": DUNE, **BOOKS, "words": CLASH}, Clash, "places", (0, 3)),
    (between.sure_posts, {"dune": DUNE, **BOOKS, "words": CLASH}, Clash, "places", (0, 3)),
    (beside.width, {"one": DUNE, "other": (1, 2)}, Unlike, None, None),
    (beside.widest, {"one": DUNE, "other": (1, 2)}, Unlike, None, None),
    (beside.is_below, {"one": DUNE, "other": (1, 2)}, Unlike, None, None),
    (beside.widths, {"one": DUNE, "other": (1, 2), "almanac": ALMANAC}, Unlike, None, None),
    (beside.felt, {"dune": DUNE, "almanac": ALMANAC, "post": -1, "by": 0}, NoPost, "post", -1),
    (beside.felt, {"dune": DUNE, "almanac": ALMANAC, "post": 3, "by": 2}, NoPost, "post", 3),
    (bookcores.cores_all, MANY_BOOKS, TooMany, "many", 512),
    (bookcores.order_to, {"dune": DUNE, **MANY_BOOKS, "told": (1, 1)}, TooMany, "many", 512),
    (bookcores.ends_all, {"dune": DUNE, **MANY_BOOKS}, TooMany, "many", 512),
    (sure.is_enough, {"dune": DUNE, **BOOKS, "words": CLASH}, Clash, "places", (0, 3)),
    (longbooks.done, {"dune": DUNE, "entries": [HAND, ("hand", 3, 1), ("hand", -1, 1)]}, NoPost, "post", 3),
    (longbooks.stretches, {"cutter": [HAND, HAND], "filler": FILLER}, Astray, "number", 1),
    (longbooks.long_may, {"dune": DUNE, "cutter": [HAND, HAND], "filler": FILLER}, Astray, "number", 1),
    (longbooks.long_may, {"dune": DUNE, "cutter": [("hand", -1, 1)], "filler": [("hand", -1, 2)]}, Astray, "number", 0),
    (longbooks.long_may, {"dune": DUNE, "cutter": [("hand", -1, 1)], "filler": [("hand", -1, 1)]}, NoPost, "post", -1),
    (longbooks.long_many, {"cutter": [HAND, HAND], "filler": FILLER}, Astray, "number", 1),
    (texts.dune_in, {"text": "1 c2"}, BadText, "at", 1),
    (texts.almanac_in, {"text": "c2 1"}, BadText, "at", 1),
    (desk.answers, {"text": "dune 0 5 1\nhand 7 1\nhand 0 0"}, BadRow, "row", 2),
]


def each_row():
    """The rows, their arguments made anew so that no test sees what another did to them."""
    return [(function, copy.deepcopy(named), wanted) for function, named, wanted in ROWS]


def mixed(value):
    """The same list, each second tuple in it as a list."""
    return [list(part) if at % 2 and isinstance(part, tuple) else part for at, part in enumerate(value)]


def in_other_kinds(named):
    """The same arguments with lists only, with tuples only, and the kinds taking turns; a thing as it is."""
    told = []
    for kinds in itertools.product((list, tuple), repeat=2):
        other = {name: value if name == "thing" else with_kind(value, kinds[at % 2])
                 for at, (name, value) in enumerate(named.items())}
        told.append(other)
    told.append({name: mixed(value) if name != "thing" and isinstance(value, list) else value
                 for name, value in named.items()})
    return told


def lists_in(value):
    """Each list in a value, at any depth."""
    if not isinstance(value, (list, tuple)):
        return []
    inner = [found for part in value for found in lists_in(part)]
    return [value] + inner if isinstance(value, list) else inner


def spoil(value):
    """Changes each list of a told value."""
    if isinstance(value, (list, tuple)):
        for part in value:
            spoil(part)
    if isinstance(value, list):
        value.append("spoiled")
        value[0] = "spoiled"


class Handing(unittest.TestCase):
    def told(self, told, wanted):
        self.assertEqual(shape(told), shape(wanted))

    def test_by_place(self):
        for function, named, wanted in each_row():
            self.told(function(*named.values()), wanted)

    def test_by_name_in_any_order(self):
        for function, named, wanted in each_row():
            for names in itertools.permutations(named):
                self.told(function(**{name: named[name] for name in names}), wanted)

    def test_first_by_place_and_the_rest_by_name(self):
        for function, named, wanted in each_row():
            first, *rest = named
            self.told(function(named[first], **{name: named[name] for name in rest}), wanted)

    def test_lists_for_tuples_and_tuples_for_lists(self):
        for function, named, wanted in each_row():
            for other in in_other_kinds(named):
                self.told(function(**other), wanted)

    def test_but_not_in_a_thing(self):
        for function, named, wanted in each_row():
            if isinstance(named.get("thing"), (list, tuple)) and wanted:
                kind = tuple if isinstance(named["thing"], list) else list
                named["thing"] = kind(named["thing"])
                self.told(function(**named), False)

    def test_what_is_handed_in_stays_as_it_was(self):
        for function, named, wanted in each_row():
            for other in in_other_kinds(named):
                before = copy.deepcopy(other)
                function(**other)
                self.told(list(other.values()), list(before.values()))

    def test_asked_twice_the_same_is_told(self):
        for function, named, wanted in each_row():
            self.told([function(**named), function(**named)], [wanted, wanted])

    def test_what_is_told_may_be_changed(self):
        for function, named, wanted in each_row():
            spoil(function(**named))
            told, again = function(**named), function(**named)
            self.told(told, wanted)
            spoil(told)
            self.told(again, wanted)

    def test_no_two_told_lists_are_one(self):
        for function, named, wanted in each_row():
            for handed in [named] + in_other_kinds(named):
                answers = (function(**handed), function(**handed))
                found = lists_in(answers) + lists_in(tuple(handed.values()))
                self.assertEqual(len({id(part) for part in found}), len(found), function)

    def test_a_change_behind_is_not_seen(self):
        for function, named, wanted in each_row():
            other = in_other_kinds(copy.deepcopy(named))[0]
            told = function(**other)
            for value in other.values():
                spoil(value)
            self.told(told, wanted)
            self.told(function(**named), wanted)

    def test_things_stay_as_they_were(self):
        for function, thing in [(dunes.is_dune, [1, [2], (3,)]), (winds.is_wind, ["cut", [1]]),
                                (almanacs.is_almanac, [["cut", 1], ("fill", 2)])]:
            before = copy.deepcopy(thing)
            function(thing)
            self.told(thing, before)
        thing = ([0, 2, 1], [0, 0, 2])
        winds.shows_blown(DUNE, CUT, thing)
        self.told(thing, ([0, 2, 1], [0, 0, 2]))

    def refused(self, function, named, refusal, field, wanted):
        with self.assertRaises(refusal) as told:
            function(**named)
        self.assertIs(type(told.exception), refusal)
        if field is not None:
            self.told(getattr(told.exception, field), wanted)
        return told.exception

    def test_refusals_by_name_in_any_order_and_in_other_kinds(self):
        for function, named, *wanted in REFUSED:
            for names in itertools.permutations(named):
                self.refused(function, {name: named[name] for name in names}, *wanted)
            for other in in_other_kinds(named):
                self.refused(function, other, *wanted)

    def test_a_core_is_refused_as_it_is_handed_in(self):
        for core in ([("cut", 9)], (("cut", 9),), [["cut", 9], ("fill", 1)], (["cut", 9],)):
            before = copy.deepcopy(core)
            told = self.refused(bookcores.order_for, {**BOOKS, "core": core}, NoCore, "core", before)
            spoil(core)
            self.told(told.core, before)
            spoil(told.core)
            self.refused(bookcores.order_for, {"core": before, **BOOKS}, NoCore, "core", before)

    def test_a_refusal_changes_nothing(self):
        for function, named, *wanted in REFUSED:
            for other in in_other_kinds(copy.deepcopy(named)):
                before = copy.deepcopy(other)
                self.refused(function, other, *wanted)
                self.told(list(other.values()), list(before.values()))

    def test_a_change_behind_a_refusal_is_not_seen(self):
        for function, named, refusal, field, wanted in REFUSED:
            other = in_other_kinds(copy.deepcopy(named))[0]
            told = self.refused(function, other, refusal, field, wanted)
            for value in other.values():
                spoil(value)
            if field is not None:
                self.told(getattr(told, field), wanted)
            self.refused(function, named, refusal, field, wanted)

    def test_what_was_told_may_be_handed_in_again(self):
        dune = (BOUND, -BOUND) * 20
        for turn in range(50):
            dune = dunes.raised(dunes.handed(dune, 0, dunes.sand(dune)), 10 ** 12)
        slope = dunes.steepest(dune)
        self.assertGreater(slope, 2 * BOUND)
        for word in ("cut", "fill"):
            self.told(winds.blown(dune, (word, slope)), dune)
            self.assertNotEqual(winds.blown(dune, (word, slope - 1)), dune)
            after = winds.blown(dune, (word, 3))
            self.assertIs(winds.shows_blown(dune, (word, 3), (after, winds.sources(dune, (word, 3)))), True)
            self.told(texts.almanac_in(texts.almanac_text([(word, slope)])), [(word, slope)])
        self.told(texts.dune_in(texts.dune_text(dune)), dune)
        self.told(beside.width(dune, dunes.raised(dune, slope)), slope)
        self.told(beside.felt(dune, [("cut", slope)], 39, 0), (0,) * 40)
        self.told(between.may_stand(dune, [slope], [slope], []), (dune, dune))

    def test_books_and_entries_that_were_told_may_be_handed_in_again(self):
        almanac = [("cut" if at % 2 else "fill", BOUND - at) for at in range(30)]
        (cuts, fills), order = orders.books_of(almanac), orders.order_of(almanac)
        dune = (-BOUND, BOUND) * 20
        self.assertEqual(len(cuts), 15)
        self.told(bookcores.order_for(cuts, fills, cores.core(almanac)), order)
        self.refused(bookcores.cores_all, {"cuts": cuts, "fills": fills}, TooMany, "many",
                     bookcores.cores_many(cuts, fills))
        words = sure.fewest_words(dune, cuts, fills, order)
        self.told(sure.is_enough(dune, cuts, fills, words), True)
        row = [entry for at in range(40) for entry in (("cut", 99 - at), ("fill", 98 - at), HAND)]
        books = (longbooks.kept_by(row, "cut"), longbooks.kept_by(row, "fill"))
        self.told(longbooks.long_many(*books), 2 ** 40)
        self.assertTrue(beside.is_below(longbooks.long_may(dune, *books)[0], longbooks.done(dune, row)))
        told = (-BOUND, BOUND - 1) * 20
        least, greatest = torn.slopes_for(dune, [], "cut", [], told)
        self.told((least, greatest), (2 * BOUND - 1, 2 * BOUND - 1))
        self.told(winds.blown(dune, ("cut", greatest)), told)


if __name__ == "__main__":
    unittest.main()
