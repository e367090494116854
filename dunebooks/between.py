"""What may stand behind two books, and where that is sure."""

from dunebooks.almanacs import behind
from dunebooks.orders import almanac_of, bounds


def order_with(ahead, many):
    """The ORDER of so many cuts with so many of them ahead of each fill."""
    # The bounds of one side never fall from fill to fill, so one order comes to
    # all of them at once.
    parts = []
    done = 0
    for cuts in ahead:
        parts.append("c" * (cuts - done) + "f")
        done = cuts
    parts.append("c" * (many - done))
    return "".join(parts)


def least_order(cuts, fills, words):
    """Of the orders that have the words the one with the most cuts ahead of each fill; Clash."""
    return order_with([most for least, most in bounds(cuts, fills, words)], len(cuts))


def greatest_order(cuts, fills, words):
    """Of the orders that have the words the one with the fewest cuts ahead of each fill; Clash."""
    return order_with([least for least, most in bounds(cuts, fills, words)], len(cuts))


def may_stand(dune, cuts, fills, words):
    """The pair of the DUNEs behind the least and the greatest order; Clash."""
    least = almanac_of(cuts, fills, least_order(cuts, fills, words))
    greatest = almanac_of(cuts, fills, greatest_order(cuts, fills, words))
    return (behind(dune, least), behind(dune, greatest))


def sure_posts(dune, cuts, fills, words):
    """The rising list of posts with one height behind each order that has the words; Clash."""
    least, greatest = may_stand(dune, cuts, fills, words)
    return [post for post, height in enumerate(least) if height == greatest[post]]
