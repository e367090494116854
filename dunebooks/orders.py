"""Orders of two books, and words of messengers that tell of them."""

from dunebooks.errors import Against, Clash, NoOrder


def is_order(cuts, fills, thing):
    """Whether a thing is an ORDER: a text of a `c` for each cut and an `f` for each fill."""
    if not isinstance(thing, str) or len(thing) != len(cuts) + len(fills):
        return False
    return thing.count("c") == len(cuts) and thing.count("f") == len(fills)


def almanac_of(cuts, fills, order):
    """The ALMANAC of both books, in that order."""
    winds = []
    cut = 0
    fill = 0
    for sign in order:
        if sign == "c":
            winds.append(("cut", cuts[cut]))
            cut += 1
        else:
            winds.append(("fill", fills[fill]))
            fill += 1
    return winds


def slopes_of(almanac, wanted):
    """The list of the slopes of all winds of one word, as they come."""
    return [slope for word, slope in almanac if word == wanted]


def books_of(almanac):
    """The pair of lists of slopes, those of cuts and those of fills."""
    return (slopes_of(almanac, "cut"), slopes_of(almanac, "fill"))


def order_of(almanac):
    """The ORDER in which an almanac has its two books."""
    return "".join(["c" if word == "cut" else "f" for word, slope in almanac])


def cuts_ahead(order):
    """The list with, for each fill, how many cuts are ahead of it."""
    return [order[:at].count("c") for at, sign in enumerate(order) if sign == "f"]


def has_word(ahead, word):
    """Whether an order with so many cuts ahead of each fill has a word."""
    first, cut, fill = word
    return (first == "cut") == (ahead[fill] > cut)


def holds(order, words):
    """Whether an order has all words."""
    ahead = cuts_ahead(order)
    return all([has_word(ahead, word) for word in words])


def are_contrary(one, other):
    """Whether no order has both words."""
    if one[0] == other[0]:
        return False
    of_cut, of_fill = (one, other) if one[0] == "cut" else (other, one)
    # Each book keeps its own order, so only then do the two words and the two
    # books lead round from a cut to itself.
    return of_fill[1] <= of_cut[1] and of_cut[2] <= of_fill[2]


def first_clash(words):
    """The first pair of places of two words that no order has both; None of none."""
    for one in range(len(words)):
        for other in range(one + 1, len(words)):
            if are_contrary(words[one], words[other]):
                return (one, other)
    return None


def refuse_clash(words):
    """Refuses words that no order has."""
    # Words bound how many cuts are ahead of a fill from below or from above; where
    # both bounds cannot be met, the two words that set them clash: no third is needed.
    places = first_clash(words)
    if places is not None:
        raise Clash(places)


def least_ahead(words, fill):
    """The least number of cuts that words leave ahead of a fill."""
    return max([cut + 1 for word, cut, at in words if word == "cut" and at <= fill], default=0)


def most_ahead(cuts, words, fill):
    """The greatest number of cuts that words leave ahead of a fill."""
    return min([cut for word, cut, at in words if word == "fill" and at >= fill], default=len(cuts))


def bounds(cuts, fills, words):
    """The list with, for each fill, the pair of the least and the greatest number of cuts ahead; Clash."""
    refuse_clash(words)
    return [(least_ahead(words, fill), most_ahead(cuts, words, fill)) for fill in range(len(fills))]


def ways_on(cuts, fills, words):
    """Rows by how many fills are done, in them by how many cuts: how many ways there are to go on; Clash."""
    # One more cut than there are is counted, too, with no way on: so nobody has
    # to ask whether there is one left.
    rows = [[1] * (len(cuts) + 1) + [0]]
    for least, most in bounds(cuts, fills, words)[::-1]:
        rows.append(ways_ahead(rows[-1], least, most))
    return rows[::-1]


def ways_ahead(later, least, most):
    """The row ahead of one fill, which from the least to the most cuts may be ahead of."""
    row = []
    many = 0
    for cut in reversed(range(len(later))):
        if least <= cut <= most:
            many += later[cut]
        row.append(many)
    return row[::-1]


def orders_many(cuts, fills, words):
    """How many orders have the words; Clash."""
    return ways_on(cuts, fills, words)[0][0]


def order_at(cuts, fills, words, number):
    """The order of that number of those that have the words, as texts rise; Clash, NoOrder."""
    ways = ways_on(cuts, fills, words)
    if not 0 <= number < ways[0][0]:
        raise NoOrder(number)
    signs = []
    cut = 0
    fill = 0
    left = number
    while cut < len(cuts) or fill < len(fills):
        by_cut = ways[fill][cut + 1]
        if left < by_cut:
            signs.append("c")
            cut += 1
        else:
            signs.append("f")
            fill += 1
            left -= by_cut
    return "".join(signs)


def number_of(cuts, fills, words, order):
    """The number of an order among those that have the words, as texts rise; Clash, Against."""
    ways = ways_on(cuts, fills, words)
    ahead = cuts_ahead(order)
    for place, word in enumerate(words):
        if not has_word(ahead, word):
            raise Against(place)
    # Ahead of it are those that are like it up to one of its fills and have a cut there.
    return sum([ways[fill][cut + 1] for fill, cut in enumerate(ahead)])
