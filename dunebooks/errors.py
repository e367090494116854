"""The refusals, each with the field that tells what was refused.

No message shows its field: a number may be too long for Python to write out,
and the refusal must come all the same.
"""

from dunebooks.kinds import own_copy


class Clash(ValueError):
    """No order has the two words at these places."""

    def __init__(self, places):
        ValueError.__init__(self, "no order has both of these words")
        self.places = own_copy(places)


class Against(ValueError):
    """The order hasn't the word at this place."""

    def __init__(self, place):
        ValueError.__init__(self, "the order does not have this word")
        self.place = place


class Unlike(ValueError):
    """Two dunes have not as many posts."""

    def __init__(self):
        ValueError.__init__(self, "the dunes do not have as many posts")


class Astray(ValueError):
    """The hand of this number isn't the same in both books."""

    def __init__(self, number):
        ValueError.__init__(self, "this hand is not the same in both books")
        self.number = number


class BadText(ValueError):
    """The word of this number isn't written as it must be."""

    def __init__(self, at):
        ValueError.__init__(self, "this word is not so written")
        self.at = at


class BadRow(ValueError):
    """The row of this number isn't written as it must be."""

    def __init__(self, row):
        ValueError.__init__(self, "this row is not so written")
        self.row = row


class NoPost(LookupError):
    """The dune has no post of this number."""

    def __init__(self, post):
        LookupError.__init__(self, "there is no such post")
        self.post = post


class NoOrder(LookupError):
    """There is no order of this number."""

    def __init__(self, number):
        LookupError.__init__(self, "there is no order of this number")
        self.number = number


class NoCore(LookupError):
    """No order of the two books has this core."""

    def __init__(self, core):
        LookupError.__init__(self, "no order has this core")
        self.core = own_copy(core)


class NoDeed(LookupError):
    """Not so many deeds stand."""

    def __init__(self, many):
        LookupError.__init__(self, "not so many deeds stand")
        self.many = many


class TooMany(OverflowError):
    """There are so many that they aren't listed."""

    def __init__(self, many):
        OverflowError.__init__(self, "there are too many to list")
        self.many = many
