"""Long books: winds, and hands that bring sand to a post or take it away."""

from dunebooks.dunes import handed
from dunebooks.errors import Astray
from dunebooks.orders import almanac_of, orders_many
from dunebooks.winds import blown


def is_hand(entry):
    """Whether an ENTRY is a hand."""
    return entry[0] == "hand"


def done(dune, entries):
    """The DUNE behind all ENTRYs; NoPost."""
    now = tuple(dune)
    for entry in entries:
        now = handed(now, entry[1], entry[2]) if is_hand(entry) else blown(now, entry)
    return now


def entries_with(entries, words):
    """The list of the ENTRYs that have one of these words, in their order."""
    return [tuple(entry) for entry in entries if entry[0] in words]


def kept_by(entries, word):
    """The book of that word's keeper: the list of its WINDs and of all hands."""
    return entries_with(entries, (word, "hand"))


def behind_last_hand(entries):
    """The list of the ENTRYs behind the last hand, WINDs all of them."""
    hands = [place for place, entry in enumerate(entries) if is_hand(entry)]
    return entries[max(hands, default=-1) + 1:]


def idle_for_all(entries):
    """The rising list of places of WINDs with one as gentle or gentler ahead, and no hand between."""
    places = []
    gentlest = None
    for place, entry in enumerate(entries):
        if is_hand(entry):
            gentlest = None
        elif gentlest is not None and gentlest <= entry[1]:
            places.append(place)
        else:
            gentlest = entry[1]
    return places


def slopes_between(book):
    """The list of the lists of slopes ahead of each hand of a book, and behind the last one."""
    rows = [[]]
    for entry in book:
        if is_hand(entry):
            rows.append([])
        else:
            rows[-1].append(entry[1])
    return rows


def same_hands(cutter, filler):
    """The list of the hands of two books; Astray where they haven't the same ones."""
    ours = entries_with(cutter, ("hand",))
    theirs = entries_with(filler, ("hand",))
    for number in range(max(len(ours), len(theirs))):
        # A slice is bare where a book has no hand of that number.
        if ours[number:number + 1] != theirs[number:number + 1]:
            raise Astray(number)
    return ours


def stretches(cutter, filler):
    """The list of triples of both books' slopes ahead of each hand, and that hand, None of the last; Astray."""
    hands = same_hands(cutter, filler)
    return list(zip(slopes_between(cutter), slopes_between(filler), [*hands, None]))


def all_of_one_first(parts, word):
    """The list of the ENTRYs of stretches, in each of them all WINDs of that word ahead of the others."""
    entries = []
    for cuts, fills, hand in parts:
        early, late = "c" * len(cuts), "f" * len(fills)
        entries.extend(almanac_of(cuts, fills, early + late if word == "cut" else late + early))
        if hand is not None:
            entries.append(hand)
    return entries


def long_may(dune, cutter, filler):
    """The pair of DUNEs between which all lies that may stand behind both books; Astray, NoPost."""
    parts = stretches(cutter, filler)
    return (done(dune, all_of_one_first(parts, "cut")), done(dune, all_of_one_first(parts, "fill")))


def long_many(cutter, filler):
    """How many rows of ENTRYs have such books; Astray."""
    many = 1
    for cuts, fills, hand in stretches(cutter, filler):
        many *= orders_many(cuts, fills, [])
    return many
