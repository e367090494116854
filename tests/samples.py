"""What several tests use: small dunes, the document's words done slowly, strange things."""

import itertools
import unittest

BOUND = 4 * 10 ** 9
WORDS = ("cut", "fill")


class Told(unittest.TestCase):
    """A test that also tells True from 1 and a list from a tuple."""

    def told(self, told, wanted):
        self.assertEqual(shape(told), shape(wanted))

    def refused(self, refusal, wanted, function, *handed):
        """That the function refuses with just this class; wanted are the fields and what they tell."""
        with self.assertRaises(refusal) as told:
            function(*handed)
        self.assertIs(type(told.exception), refusal)
        for field, value in wanted.items():
            self.told(getattr(told.exception, field), value)


def small_dunes(posts, heights):
    """All dunes of one to so many posts with heights out of these."""
    return [dune for many in range(1, posts + 1) for dune in itertools.product(heights, repeat=many)]


def small_almanacs(winds, slopes):
    """All almanacs of none to so many winds with slopes out of these."""
    each = [(word, slope) for word in WORDS for slope in slopes]
    return [list(row) for many in range(winds + 1) for row in itertools.product(each, repeat=many)]


def slow_given(dune, wind, post):
    """What each post would give that one, first to last."""
    word, slope = wind
    sign = 1 if word == "cut" else -1
    return [height + sign * slope * abs(at - post) for at, height in enumerate(dune)]


def slow_blown(dune, wind):
    """The dune behind a wind, by going through all posts for each post."""
    best = min if wind[0] == "cut" else max
    return tuple([best(slow_given(dune, wind, post)) for post in range(len(dune))])


def slow_sources(dune, wind):
    """All posts, for each post, from which its height comes."""
    after = slow_blown(dune, wind)
    return [[at for at, height in enumerate(slow_given(dune, wind, post)) if height == after[post]]
            for post in range(len(dune))]


def slow_behind(dune, almanac):
    """The dune behind all winds, each done slowly."""
    for wind in almanac:
        dune = slow_blown(dune, wind)
    return dune


def slow_core(almanac):
    """The core as the document's [7] tells it, written out on its own."""
    kept = [wind for at, wind in enumerate(almanac) if all(ahead[1] > wind[1] for ahead in almanac[:at])]
    return [wind for at, wind in enumerate(kept) if at + 1 == len(kept) or kept[at + 1][0] != wind[0]]


def slow_orders(cuts, fills):
    """All orders of two books, as texts rise."""
    many = len(cuts) + len(fills)
    rows = itertools.combinations(range(many), len(cuts))
    return sorted("".join(["c" if at in row else "f" for at in range(many)]) for row in rows)


def place_in(order, sign, number):
    """Where the c or the f of that number stands in an order."""
    return [at for at, other in enumerate(order) if other == sign][number]


def slow_has(order, word):
    """Whether an order has a word, by where its cut and its fill stand."""
    first, cut, fill = word
    cut_place, fill_place = place_in(order, "c", cut), place_in(order, "f", fill)
    return cut_place < fill_place if first == "cut" else fill_place < cut_place


def slow_held(cuts, fills, words):
    """All orders that have all words, as texts rise."""
    return [order for order in slow_orders(cuts, fills) if all(slow_has(order, word) for word in words)]


def slow_clash(cuts, fills, words):
    """The first pair of places of two words that no order has both; None of none."""
    pairs = itertools.combinations(range(len(words)), 2)
    return next((pair for pair in pairs if not slow_held(cuts, fills, [words[at] for at in pair])), None)


def slow_almanac(cuts, fills, order):
    """The almanac of two books in an order."""
    ahead = {"c": iter([("cut", slope) for slope in cuts]), "f": iter([("fill", slope) for slope in fills])}
    return [next(ahead[sign]) for sign in order]


def all_words(cuts, fills):
    """Each word that there is of two books."""
    return [(first, cut, fill) for first in WORDS for cut in range(len(cuts)) for fill in range(len(fills))]


def words_of(order):
    """Each word that an order has."""
    cuts, fills = "c" * order.count("c"), "f" * order.count("f")
    return [word for word in all_words(cuts, fills) if slow_has(order, word)]


def word_lists(cuts, fills, many):
    """All lists of none to so many words of two books, those that no order has among them."""
    each = all_words(cuts, fills)
    return [list(row) for so_many in range(many + 1) for row in itertools.product(each, repeat=so_many)]


def small_cases():
    """Small books with words, each as a triple: no words, words told twice, words that clash, all words of an order."""
    told = []
    for cut_many, fill_many, many in [(0, 0, 0), (0, 1, 0), (0, 3, 0), (1, 0, 0), (3, 0, 0), (1, 1, 4), (1, 2, 3),
                                      (2, 1, 3), (2, 2, 3), (1, 3, 2), (3, 1, 2), (2, 3, 2), (3, 2, 2), (3, 3, 2)]:
        cuts, fills = [4, 2, 3][:cut_many], [3, 5, 1][:fill_many]
        told += [(cuts, fills, words) for words in word_lists(cuts, fills, many)]
        for order in slow_orders(cuts, fills):
            told += [(cuts, fills, words_of(order)), (cuts, fills, words_of(order)[::-1])]
    # Longer lists, of three by four, each word some steps behind the one ahead of it.
    cuts, fills = [2, 1, 2], [1, 3, 0, 2]
    each = all_words(cuts, fills)
    for begin, step, many in itertools.product(range(len(each)), (1, 5, 7, 11), (3, 4, 6)):
        told.append((cuts, fills, [each[(begin + step * at) % len(each)] for at in range(many)]))
    return told


def spread_numbers(seed, many, below):
    """So many numbers from 0 on, below a bound, unlike for each seed and the same each time."""
    told, now = [], seed * 7919 + 12345
    for turn in range(many):
        now = (now * 1103515245 + 12345) % 2 ** 31
        told.append((now >> 8) % below)
    return told


def nested(inner, deep, kinds):
    """A thing in so many lists or tuples, one in the other; kinds take turns."""
    for turn in range(deep):
        inner = kinds[turn % len(kinds)]([inner])
    return inner


def strange_things():
    """Things of all kinds that [2] allows; none is a dune, a wind, an almanac or shows a blow."""
    things = [None, True, False, 0, 1, -1, 10 ** 30, "", "cut", "fill", "cf", "c1", "1", "(1,)"]
    things += [(), [()], ([],), ((),), (None,), ("",), ("1",), (True,), (False,), (1, True), (False, 0)]
    things += [[0], [1, 2], [None], [True], ["cut"], ["cut", 1], [["cut", 1]], [("cut",)], ("cut",)]
    things += [(("cut", 1),), (("cut", 1), ("fill", 0)), ((1,), (0,), (0,)), [(1,), (0,)]]
    for inner in (1, True, None, "cut", (), []):
        for kinds in ((list,), (tuple,), (list, tuple), (tuple, list)):
            things.append(nested(inner, 12 if inner not in ((), []) else 11, kinds))
    return things


def with_kind(value, kind):
    """The same value with each list and each tuple in it of that kind, at any depth."""
    if isinstance(value, (list, tuple)):
        return kind([with_kind(part, kind) for part in value])
    return value


def shape(value):
    """The value with the kind of each part, so that True and 1, a list and a tuple are told apart."""
    if isinstance(value, (list, tuple)):
        return (type(value).__name__, [shape(part) for part in value])
    return (type(value).__name__, value)


def parts_otherwise(part):
    """Other things to stand where one part of a thing stands."""
    told = [None, True, False, -1, 0, 1, 2, 10 ** 20, "", "cut", "fill", "hand", (), [], (0,), [0], ((),), [[]]]
    if isinstance(part, (list, tuple)):
        other = tuple if isinstance(part, list) else list
        kind = type(part)
        told += [other(part), kind([part]), other([part]), part + kind([0]), part + kind([()]), part + part, part[::-1]]
        told += [part[:at] + part[at + 1:] for at in range(len(part))]
    elif isinstance(part, int):
        told += [part + 1, part - 1, -part, str(part), bool(part), (part,), [part]]
    return told


def otherwise(thing):
    """The thing with one part of it, at any depth, otherwise; some come out as the thing itself."""
    told = parts_otherwise(thing)
    if isinstance(thing, (list, tuple)):
        for at, part in enumerate(thing):
            told += [thing[:at] + type(thing)([other]) + thing[at + 1:] for other in otherwise(part)]
    return told


def slow_is_wind(thing):
    """Whether a thing is a wind, of just the kinds that the document tells."""
    return type(thing) is tuple and len(thing) == 2 and type(thing[0]) is str and thing[0] in WORDS \
        and type(thing[1]) is int and thing[1] >= 0


def slow_is_core(thing):
    """Whether a thing is its own core: slopes fall, words take turns."""
    if type(thing) is not list or not all(slow_is_wind(wind) for wind in thing):
        return False
    return all(one[0] != other[0] and one[1] > other[1] for one, other in zip(thing, thing[1:]))


def slow_done(dune, entries):
    """The dune behind entries, each done slowly."""
    for entry in entries:
        if entry[0] == "hand":
            dune = tuple([height + (entry[2] if at == entry[1] else 0) for at, height in enumerate(dune)])
        else:
            dune = slow_blown(dune, entry)
    return dune


def slow_rows(cutter, filler):
    """All rows of entries that have these two books, by their places: hands are taken off both at once."""
    if cutter == [] and filler == []:
        return [[]]
    told = []
    if cutter and cutter[0][0] != "hand":
        told += [[cutter[0]] + row for row in slow_rows(cutter[1:], filler)]
    if filler and filler[0][0] != "hand":
        told += [[filler[0]] + row for row in slow_rows(cutter, filler[1:])]
    if cutter and filler and cutter[0][0] == "hand" and cutter[0] == filler[0]:
        told += [[cutter[0]] + row for row in slow_rows(cutter[1:], filler[1:])]
    return told


def least_and_greatest(dunes):
    """The pair of what each post has at least, at most, of some dunes."""
    columns = list(zip(*dunes))
    return (tuple([min(column) for column in columns]), tuple([max(column) for column in columns]))
