"""Dunes: rows of posts with heights."""

from dunebooks.errors import NoPost
from dunebooks.kinds import is_number


def is_dune(thing):
    """Whether a thing is a DUNE: a tuple of one or more numbers."""
    return isinstance(thing, tuple) and len(thing) > 0 and all([is_number(height) for height in thing])


def steepest(dune):
    """The greatest gap of two neighbours' heights; 0 of one post."""
    return max([abs(right - left) for left, right in zip(dune, dune[1:])], default=0)


def sand(dune):
    """All heights together."""
    return sum(dune)


def raised(dune, by):
    """The DUNE with each height by so much more."""
    return tuple([height + by for height in dune])


def mirrored(dune):
    """The DUNE with its posts the other way about."""
    return tuple(dune[::-1])


def upside(dune):
    """The DUNE with each height less itself from 0."""
    return tuple([-height for height in dune])


def handed(dune, post, by):
    """The DUNE with that post by so much more; NoPost where there's none such."""
    # Python would count a post below 0 from the end, where a dune has none.
    if not 0 <= post < len(dune):
        raise NoPost(post)
    return tuple([height + by if at == post else height for at, height in enumerate(dune)])
