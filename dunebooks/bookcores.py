"""How many unlike cores two books can come to, which, and by which orders."""

from dunebooks.almanacs import behind
from dunebooks.errors import NoCore, TooMany
from dunebooks.meetings import core_in, first_order, words_all, words_for, words_many
from dunebooks.orders import first_clash

LISTED = 300


def cores_many(cuts, fills):
    """How many unlike cores the orders of two books have."""
    return words_many(cuts, fills)


def first_orders(cuts, fills):
    """The list of the first order, as texts rise, of each core; TooMany."""
    many = cores_many(cuts, fills)
    if many > LISTED:
        raise TooMany(many)
    return [first_order(cuts, fills, words) for words in words_all(cuts, fills)]


def cores_all(cuts, fills):
    """The rising list of all cores that orders of two books have; TooMany."""
    return sorted([core_in(cuts, fills, order) for order in first_orders(cuts, fills)])


def order_for(cuts, fills, core):
    """The first order, as texts rise, that has that core; NoCore."""
    words = words_for(cuts, fills, core)
    if first_clash(words) is not None:
        raise NoCore(core)
    order = first_order(cuts, fills, words)
    # The words tell of slopes only where both books have winds, so the rest of
    # the core, and whether it is one, is seen here.
    if core_in(cuts, fills, order) != [tuple(wind) for wind in core]:
        raise NoCore(core)
    return order


def ends_by_order(dune, cuts, fills):
    """The list of pairs of the first order of each core and the DUNE behind it; TooMany."""
    orders = first_orders(cuts, fills)
    return [(order, behind(dune, core_in(cuts, fills, order))) for order in orders]


def order_to(dune, cuts, fills, told):
    """The first order, as texts rise, behind which the told DUNE stands; None of none; TooMany."""
    wanted = tuple(told)
    return min([order for order, end in ends_by_order(dune, cuts, fills) if end == wanted], default=None)


def ends_all(dune, cuts, fills):
    """The rising list of all DUNEs that stand behind some order; TooMany."""
    return sorted({end for order, end in ends_by_order(dune, cuts, fills)})
