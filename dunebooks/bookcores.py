"""How many unlike cores two books can come to, which, and by which orders."""

from dunebooks.almanacs import behind
from dunebooks.cores import alike, cores_of, first_to_shift, is_core
from dunebooks.errors import NoCore, TooMany
from dunebooks.orders import almanac_of, are_contrary, first_clash, order_at

LISTED = 300


def first_gentle(slopes, slope):
    """The number of the first of some slopes that is that one at most; None of none."""
    for number, other in enumerate(slopes):
        if other <= slope:
            return number
    return None


def meetings(cuts, fills):
    """The list of pairs of a cut and a fill, by their numbers, of which the first one shifts sand, steepest first."""
    # Sand above a slope is shifted by the first wind as gentle as that, in both
    # books; which of these two was ahead is all that a core can tell of it.
    pairs = []
    for slope in sorted([*cuts, *fills], reverse=True):
        pair = (first_gentle(cuts, slope), first_gentle(fills, slope))
        if None not in pair and pair not in pairs:
            pairs.append(pair)
    return pairs


def both_words(pair):
    """The pair of WORDs of a cut and a fill, each of them ahead of the other."""
    cut, fill = pair
    return (("cut", cut, fill), ("fill", cut, fill))


def ways_to(word, ahead, many):
    """How many lists go on with a WORD, of which so many end with each of those ahead."""
    return sum([ways for other, ways in zip(ahead, many) if not are_contrary(other, word)])


def cores_many(cuts, fills):
    """How many unlike cores the orders of two books have."""
    # As many as there are lists of words, one of each meeting, that some order has.
    # Neither number falls from meeting to meeting, so words of two meetings clash
    # only where one cut or one fill is the same in all between, and then two
    # neighbours among these clash: no others have to be looked at.
    met = meetings(cuts, fills)
    many = [1, 1] if len(met) > 0 else [1]
    for ahead, after in zip(met, met[1:]):
        many = [ways_to(word, both_words(ahead), many) for word in both_words(after)]
    return sum(many)


def words_all(cuts, fills):
    """The list of all lists of WORDs, one of each meeting, that some order has."""
    rows = [[]]
    for pair in meetings(cuts, fills):
        rows = [[*row, word] for row in rows for word in both_words(pair) if first_clash([*row[-1:], word]) is None]
    return rows


def words_for(cuts, fills, winds):
    """The list of WORDs, one of each meeting, that an order with that core has."""
    words = []
    for pair in meetings(cuts, fills):
        by_cut, by_fill = both_words(pair)
        slope = max(cuts[pair[0]], fills[pair[1]])
        words.append(by_cut if first_to_shift(winds, slope) == "cut" else by_fill)
    return words


def first_orders(cuts, fills):
    """The list of the first order, as texts rise, of each core; TooMany."""
    many = cores_many(cuts, fills)
    if many > LISTED:
        raise TooMany(many)
    return [order_at(cuts, fills, words, 0) for words in words_all(cuts, fills)]


def cores_all(cuts, fills):
    """The rising list of all cores that orders of two books have; TooMany."""
    return cores_of([almanac_of(cuts, fills, order) for order in first_orders(cuts, fills)])


def order_for(cuts, fills, core):
    """The first order, as texts rise, that has that core; NoCore."""
    winds = [tuple(wind) for wind in core]
    words = words_for(cuts, fills, winds)
    if not is_core(winds) or first_clash(words) is not None:
        raise NoCore(core)
    order = order_at(cuts, fills, words, 0)
    # The words tell only of slopes at which both books have winds, so what the
    # core has beside is seen here.
    if not alike(almanac_of(cuts, fills, order), winds):
        raise NoCore(core)
    return order


def ends_by_order(dune, cuts, fills):
    """The list of pairs of the first order of each core and the DUNE behind it; TooMany."""
    return [(order, behind(dune, almanac_of(cuts, fills, order))) for order in first_orders(cuts, fills)]


def order_to(dune, cuts, fills, told):
    """The first order, as texts rise, behind which the told DUNE stands; None of none; TooMany."""
    wanted = tuple(told)
    return min([order for order, end in ends_by_order(dune, cuts, fills) if end == wanted], default=None)


def ends_all(dune, cuts, fills):
    """The rising list of all DUNEs that stand behind some order; TooMany."""
    return sorted({end for order, end in ends_by_order(dune, cuts, fills)})
