"""Plays: the games of a cutter and a filler whose worths the heights are."""

from dunebooks.almanacs import days
from dunebooks.kinds import is_number
from dunebooks.winds import blown, given, is_post_row, sources


def played(dune, wind, posts):
    """The tuple of what posts come to at a wind, each from the post that a play has for it."""
    return tuple([given(dune, wind, post, source) for post, source in enumerate(posts)])


def held(dune, almanac, word, play):
    """The tuple of what posts come to at last by a play of that word."""
    now = tuple(dune)
    for wind, posts in zip(almanac, play):
        now = played(now, wind, posts) if wind[0] == word else blown(now, wind)
    return now


def best_play(dune, almanac, word):
    """The play of that word by which each post comes to its height behind each wind, with the first post of several."""
    rows = days(dune, almanac)
    return [sources(rows[number], wind) if wind[0] == word else () for number, wind in enumerate(almanac)]


def is_move(many, is_own, thing):
    """Whether a thing is what a play has for a wind: of its own word a row of so many posts, else ()."""
    return is_post_row(many if is_own else 0, thing)


def is_play(dune, almanac, word, thing):
    """Whether a thing is a play of that word for an almanac, of posts that there are."""
    if not isinstance(thing, list) or len(thing) != len(almanac):
        return False
    return all([is_move(len(dune), wind[0] == word, move) for wind, move in zip(almanac, thing)])


def is_post(dune, post):
    """Whether a dune has a post of that number."""
    return is_number(post) and 0 <= post < len(dune)


def shows_most(dune, almanac, post, height, thing):
    """Whether a thing is a play of cuts by which that post comes to that height at most."""
    if not is_post(dune, post) or not is_play(dune, almanac, "cut", thing):
        return False
    return held(dune, almanac, "cut", thing)[post] <= height


def shows_least(dune, almanac, post, height, thing):
    """Whether a thing is a play of fills by which that post comes to that height at least."""
    if not is_post(dune, post) or not is_play(dune, almanac, "fill", thing):
        return False
    return held(dune, almanac, "fill", thing)[post] >= height
