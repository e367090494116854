"""A yard: one dune, the deeds that stand, and what both keepers' books leave open."""

from dunebooks.almanacs import amounts
from dunebooks.errors import NoDeed
from dunebooks.longbooks import done, entries_with, is_hand, long_may


def outcome(dune, entry):
    """The pair of the DUNE behind an ENTRY and what that tells, None of a hand; NoPost."""
    return (done(dune, [entry]), None if is_hand(entry) else amounts(dune, [entry])[0])


class Yard:
    """A dune and the deeds done to it, which can be undone."""

    def __init__(self, dune):
        self.origin = tuple(dune)
        # One tuple of ENTRYs for each deed that stands. All that is asked is made
        # from these anew, so a deed undone leaves nothing behind.
        self.standing = []
        self.notes = []

    def __eq__(self, other):
        return isinstance(other, Yard) and self.origin == other.origin and self.entries() == other.entries()

    def __len__(self):
        return len(self.origin)

    def __repr__(self):
        return f"Yard({len(self.origin)} posts, {len(self.entries())} entries)"

    def blow(self, word, slope):
        """Does one WIND; the pair of what it took and what it brought."""
        return self.do_all([(word, slope)])[0]

    def hand(self, post, by):
        """Brings so much to a post, or takes it away; NoPost."""
        self.do_all([("hand", post, by)])

    def do(self, deeds):
        """Does a list of ENTRYs as one deed, all or none; the list of what each tells; NoPost."""
        self.notes.append(("in", "do"))
        try:
            return self.do_all(deeds)
        finally:
            self.notes.append(("out", "do"))

    def do_all(self, entries):
        """Does ENTRYs as one deed and notes each of them; the list of what each tells; NoPost."""
        now = self.dune()
        told = []
        for entry in entries:
            word = "hand" if is_hand(entry) else "blow"
            self.notes.append(("in", word))
            try:
                now, what = outcome(now, entry)
            finally:
                self.notes.append(("out", word))
            told.append(what)
        self.standing.append(tuple([tuple(entry) for entry in entries]))
        return told

    def undo(self):
        """Makes the last deed that stands as if it had never been; whether there was one."""
        self.notes.append(("in", "undo"))
        stands = len(self.standing) > 0
        if stands:
            self.standing.pop()
        self.notes.append(("out", "undo"))
        return stands

    def dune(self):
        """The DUNE as it is now."""
        return done(self.origin, self.entries())

    def first(self):
        """The DUNE that the yard was made with."""
        return self.origin

    def entries(self):
        """The list of the ENTRYs of all deeds that stand."""
        return [entry for deed in self.standing for entry in deed]

    def kept_by(self, word):
        """The book of that word's keeper."""
        return entries_with(self.entries(), (word, "hand"))

    def may(self):
        """The pair of DUNEs between which all lies that both keepers' books leave open."""
        return long_may(self.origin, self.kept_by("cut"), self.kept_by("fill"))

    def is_sure(self):
        """Whether both keepers' books leave nothing open."""
        now = self.dune()
        return self.may() == (now, now)

    def deeds(self):
        """How many deeds stand."""
        return len(self.standing)

    def as_of(self, many):
        """A Yard of its own, as behind the first so many deeds that stand; NoDeed."""
        if not 0 <= many <= len(self.standing):
            raise NoDeed(many)
        yard = Yard(self.origin)
        yard.standing = self.standing[:many]
        return yard

    def twin(self):
        """A Yard of its own, as behind all deeds that stand."""
        return self.as_of(len(self.standing))

    def log(self):
        """The list of pairs of "in" or "out" and a deed's word, as deeds were begun and ended."""
        return list(self.notes)
