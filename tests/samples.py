"""What several tests use: small dunes, the document's words done slowly, strange things."""

import itertools

BOUND = 4 * 10 ** 9
WORDS = ("cut", "fill")


def small_dunes(posts, heights):
    """All dunes of one to so many posts with heights out of these."""
    return [dune for many in range(1, posts + 1) for dune in itertools.product(heights, repeat=many)]


def small_almanacs(winds, slopes):
    """All almanacs of none to so many winds with slopes out of these."""
    each = [(word, slope) for word in WORDS for slope in slopes]
    return [list(row) for many in range(winds + 1) for row in itertools.product(each, repeat=many)]


def slow_given(dune, wind, post):
    """What each post would give that one, first to last."""
    word, slope = wind
    sign = 1 if word == "cut" else -1
    return [height + sign * slope * abs(at - post) for at, height in enumerate(dune)]


def slow_blown(dune, wind):
    """The dune behind a wind, by going through all posts for each post."""
    best = min if wind[0] == "cut" else max
    return tuple([best(slow_given(dune, wind, post)) for post in range(len(dune))])


def slow_sources(dune, wind):
    """All posts, for each post, from which its height comes."""
    after = slow_blown(dune, wind)
    return [[at for at, height in enumerate(slow_given(dune, wind, post)) if height == after[post]]
            for post in range(len(dune))]


def slow_behind(dune, almanac):
    """The dune behind all winds, each done slowly."""
    for wind in almanac:
        dune = slow_blown(dune, wind)
    return dune


def slow_core(almanac):
    """The core as the document's [7] tells it, written out on its own."""
    kept = [wind for at, wind in enumerate(almanac) if all(ahead[1] > wind[1] for ahead in almanac[:at])]
    return [wind for at, wind in enumerate(kept) if at + 1 == len(kept) or kept[at + 1][0] != wind[0]]


def slow_orders(cuts, fills):
    """All orders of two books, as texts rise."""
    many = len(cuts) + len(fills)
    rows = itertools.combinations(range(many), len(cuts))
    return sorted("".join(["c" if at in row else "f" for at in range(many)]) for row in rows)


def place_in(order, sign, number):
    """Where the c or the f of that number stands in an order."""
    return [at for at, other in enumerate(order) if other == sign][number]


def slow_has(order, word):
    """Whether an order has a word, by where its cut and its fill stand."""
    first, cut, fill = word
    cut_place, fill_place = place_in(order, "c", cut), place_in(order, "f", fill)
    return cut_place < fill_place if first == "cut" else fill_place < cut_place


def slow_held(cuts, fills, words):
    """All orders that have all words, as texts rise."""
    return [order for order in slow_orders(cuts, fills) if all(slow_has(order, word) for word in words)]


def slow_clash(cuts, fills, words):
    """The first pair of places of two words that no order has both; None of none."""
    pairs = itertools.combinations(range(len(words)), 2)
    return next((pair for pair in pairs if not slow_held(cuts, fills, [words[at] for at in pair])), None)


def slow_almanac(cuts, fills, order):
    """The almanac of two books in an order."""
    ahead = {"c": iter([("cut", slope) for slope in cuts]), "f": iter([("fill", slope) for slope in fills])}
    return [next(ahead[sign]) for sign in order]


def all_words(cuts, fills):
    """Each word that there is of two books."""
    return [(first, cut, fill) for first in WORDS for cut in range(len(cuts)) for fill in range(len(fills))]


def words_of(order):
    """Each word that an order has."""
    cuts, fills = "c" * order.count("c"), "f" * order.count("f")
    return [word for word in all_words(cuts, fills) if slow_has(order, word)]


def word_lists(cuts, fills, many):
    """All lists of none to so many words of two books, those that no order has among them."""
    each = all_words(cuts, fills)
    return [list(row) for so_many in range(many + 1) for row in itertools.product(each, repeat=so_many)]


def small_cases():
    """Small books with words, each as a triple: no words, words told twice, words that clash, all words of an order."""
    told = []
    for cut_many, fill_many, many in [(0, 0, 0), (0, 1, 0), (0, 3, 0), (1, 0, 0), (3, 0, 0), (1, 1, 4), (1, 2, 3),
                                      (2, 1, 3), (2, 2, 3), (1, 3, 2), (3, 1, 2), (2, 3, 2), (3, 2, 2), (3, 3, 2)]:
        cuts, fills = [4, 2, 3][:cut_many], [3, 5, 1][:fill_many]
        told += [(cuts, fills, words) for words in word_lists(cuts, fills, many)]
        for order in slow_orders(cuts, fills):
            told += [(cuts, fills, words_of(order)), (cuts, fills, words_of(order)[::-1])]
    # Longer lists, of three by four, each word some steps behind the one ahead of it.
    cuts, fills = [2, 1, 2], [1, 3, 0, 2]
    each = all_words(cuts, fills)
    for begin, step, many in itertools.product(range(len(each)), (1, 5, 7, 11), (3, 4, 6)):
        told.append((cuts, fills, [each[(begin + step * at) % len(each)] for at in range(many)]))
    return told


def nested(inner, deep, kinds):
    """A thing in so many lists or tuples, one in the other; kinds take turns."""
    for turn in range(deep):
        inner = kinds[turn % len(kinds)]([inner])
    return inner


def strange_things():
    """Things of all kinds that [2] allows; none is a dune, a wind, an almanac or shows a blow."""
    things = [None, True, False, 0, 1, -1, 10 ** 30, "", "cut", "fill", "cf", "c1", "1", "(1,)"]
    things += [(), [()], ([],), ((),), (None,), ("",), ("1",), (True,), (False,), (1, True), (False, 0)]
    things += [[0], [1, 2], [None], [True], ["cut"], ["cut", 1], [["cut", 1]], [("cut",)], ("cut",)]
    things += [(("cut", 1),), (("cut", 1), ("fill", 0)), ((1,), (0,), (0,)), [(1,), (0,)]]
    for inner in (1, True, None, "cut", (), []):
        for kinds in ((list,), (tuple,), (list, tuple), (tuple, list)):
            things.append(nested(inner, 12 if inner not in ((), []) else 11, kinds))
    return things


def with_kind(value, kind):
    """The same value with each list and each tuple in it of that kind, at any depth."""
    if isinstance(value, (list, tuple)):
        return kind([with_kind(part, kind) for part in value])
    return value


def shape(value):
    """The value with the kind of each part, so that True and 1, a list and a tuple are told apart."""
    if isinstance(value, (list, tuple)):
        return (type(value).__name__, [shape(part) for part in value])
    return (type(value).__name__, value)
