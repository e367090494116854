"""What several tests use: small dunes, the document's words done slowly, strange things."""

import itertools

BOUND = 4 * 10 ** 9
WORDS = ("cut", "fill")


def small_dunes(posts, heights):
    """All dunes of one to so many posts with heights out of these."""
    return [dune for many in range(1, posts + 1) for dune in itertools.product(heights, repeat=many)]


def small_almanacs(winds, slopes):
    """All almanacs of none to so many winds with slopes out of these."""
    each = [(word, slope) for word in WORDS for slope in slopes]
    return [list(row) for many in range(winds + 1) for row in itertools.product(each, repeat=many)]


def slow_given(dune, wind, post):
    """What each post would give that one, first to last."""
    word, slope = wind
    sign = 1 if word == "cut" else -1
    return [height + sign * slope * abs(at - post) for at, height in enumerate(dune)]


def slow_blown(dune, wind):
    """The dune behind a wind, by going through all posts for each post."""
    best = min if wind[0] == "cut" else max
    return tuple([best(slow_given(dune, wind, post)) for post in range(len(dune))])


def slow_sources(dune, wind):
    """All posts, for each post, from which its height comes."""
    after = slow_blown(dune, wind)
    return [[at for at, height in enumerate(slow_given(dune, wind, post)) if height == after[post]]
            for post in range(len(dune))]


def slow_behind(dune, almanac):
    """The dune behind all winds, each done slowly."""
    for wind in almanac:
        dune = slow_blown(dune, wind)
    return dune


def slow_core(almanac):
    """The core as the document's [7] tells it, written out on its own."""
    kept = [wind for at, wind in enumerate(almanac) if all(ahead[1] > wind[1] for ahead in almanac[:at])]
    return [wind for at, wind in enumerate(kept) if at + 1 == len(kept) or kept[at + 1][0] != wind[0]]


def nested(inner, deep, kinds):
    """A thing in so many lists or tuples, one in the other; kinds take turns."""
    for turn in range(deep):
        inner = kinds[turn % len(kinds)]([inner])
    return inner


def strange_things():
    """Things of all kinds that [2] allows; none is a dune, a wind, an almanac or shows a blow."""
    things = [None, True, False, 0, 1, -1, 10 ** 30, "", "cut", "fill", "cf", "c1", "1", "(1,)"]
    things += [(), [()], ([],), ((),), (None,), ("",), ("1",), (True,), (False,), (1, True), (False, 0)]
    things += [[0], [1, 2], [None], [True], ["cut"], ["cut", 1], [["cut", 1]], [("cut",)], ("cut",)]
    things += [(("cut", 1),), (("cut", 1), ("fill", 0)), ((1,), (0,), (0,)), [(1,), (0,)]]
    for inner in (1, True, None, "cut", (), []):
        for kinds in ((list,), (tuple,), (list, tuple), (tuple, list)):
            things.append(nested(inner, 12 if inner not in ((), []) else 11, kinds))
    return things


def with_kind(value, kind):
    """The same value with each list and each tuple in it of that kind, at any depth."""
    if isinstance(value, (list, tuple)):
        return kind([with_kind(part, kind) for part in value])
    return value


def shape(value):
    """The value with the kind of each part, so that True and 1, a list and a tuple are told apart."""
    if isinstance(value, (list, tuple)):
        return (type(value).__name__, [shape(part) for part in value])
    return (type(value).__name__, value)
