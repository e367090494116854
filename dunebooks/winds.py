"""Winds: cuts and fills, each with its slope."""

from dunebooks.dunes import is_dune, mirrored, steepest, upside
from dunebooks.kinds import is_number


def is_wind(thing):
    """Whether a thing is a WIND: a pair of a word and a slope from 0."""
    if not isinstance(thing, tuple) or len(thing) != 2:
        return False
    return thing[0] in ("cut", "fill") and is_number(thing[1]) and thing[1] >= 0


def blown(dune, wind):
    """The DUNE behind a wind."""
    word, slope = wind
    if word == "cut":
        return cut_to(dune, slope)
    # A fill is a cut of the dune upside down.
    return upside(cut_to(upside(dune), slope))


def cut_to(dune, slope):
    """The DUNE behind a cut of that slope."""
    # What a post gets of one far off comes by way of all posts between them,
    # so one pass from each side finds the least of all.
    onward = cut_onward(dune, slope)
    return mirrored(cut_onward(mirrored(onward), slope))


def cut_onward(dune, slope):
    """The list of heights, each the least that the post itself and those ahead of it give."""
    heights = [dune[0]]
    for height in dune[1:]:
        heights.append(min(height, heights[-1] + slope))
    return heights


def is_idle(dune, wind):
    """Whether a wind changes nothing of a dune."""
    return steepest(dune) <= wind[1]


def contrary(wind):
    """The WIND of the other word with the same slope."""
    word, slope = wind
    return ("fill" if word == "cut" else "cut", slope)


def given(dune, wind, post, source):
    """The height that one post gets of another, if its own comes from there."""
    word, slope = wind
    climb = slope * abs(post - source)
    return dune[source] + climb if word == "cut" else dune[source] - climb


def first_source(dune, wind, post, height):
    """The first post that gives another one that height, which some post does."""
    return [given(dune, wind, post, source) for source in range(len(dune))].index(height)


def sources(dune, wind):
    """The tuple with, for each post, the first one from which its height comes."""
    return tuple([first_source(dune, wind, post, height) for post, height in enumerate(blown(dune, wind))])


def is_post_row(many, thing):
    """Whether a thing is a tuple with, for each of so many posts, one of them."""
    if not isinstance(thing, tuple) or len(thing) != many:
        return False
    return all([is_number(post) and 0 <= post < many for post in thing])


def shows_blown(dune, wind, thing):
    """Whether a thing is a pair of the DUNE behind and posts from which its heights come."""
    if not isinstance(thing, tuple) or len(thing) != 2:
        return False
    after, posts = thing
    # A row with True for 1 would equal the DUNE, so its kind is asked first.
    if not is_dune(after) or after != blown(dune, wind):
        return False
    if not is_post_row(len(dune), posts):
        return False
    return all([given(dune, wind, post, source) == after[post] for post, source in enumerate(posts)])
