"""Two dunes beside each other, under the same winds."""

from dunebooks.almanacs import behind, days
from dunebooks.dunes import handed
from dunebooks.errors import Unlike


def rises(one, other):
    """The tuple of how much higher each post is in the other dune than in the one; Unlike."""
    if len(one) != len(other):
        raise Unlike()
    return tuple([there - here for here, there in zip(one, other)])


def gaps(one, other):
    """The list of the gaps of two dunes, post by post; Unlike."""
    return [abs(rise) for rise in rises(one, other)]


def width(one, other):
    """The greatest gap of two dunes at any post; Unlike."""
    return max(gaps(one, other))


def widest(one, other):
    """The first post with the greatest gap; Unlike."""
    return gaps(one, other).index(width(one, other))


def is_below(one, other):
    """Whether the one dune is nowhere higher than the other; Unlike."""
    return min(rises(one, other)) >= 0


def widths(one, other, almanac):
    """The list of the widths at first and behind each wind, done to both dunes; Unlike."""
    return [width(here, there) for here, there in zip(days(one, almanac), days(other, almanac))]


def felt(dune, almanac, post, by):
    """The tuple of how much higher each post is in the end where that one was so much higher at first; NoPost."""
    return rises(behind(dune, almanac), behind(handed(dune, post, by), almanac))
