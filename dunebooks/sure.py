"""The fewest words that make all sure."""

from dunebooks.almanacs import behind
from dunebooks.between import sure_posts
from dunebooks.orders import almanac_of
from dunebooks.sides import Side, shortest_ways


def corner_stops(order):
    """The rising list of how many are done, in an order, when the first of two unlike neighbours is."""
    return [at + 1 for at in range(len(order) - 1) if order[at] != order[at + 1]]


def corner_at(order, stop):
    """The WORD of the two unlike neighbours of which the first one is the last done there."""
    ahead = order[:stop - 1]
    return ("cut" if order[stop - 1] == "c" else "fill", ahead.count("c"), ahead.count("f"))


def corners(order):
    """The list of the WORDs that tell of unlike neighbours which was ahead."""
    return [corner_at(order, stop) for stop in corner_stops(order)]


def is_enough(dune, cuts, fills, words):
    """Whether all posts are sure; Clash."""
    return len(sure_posts(dune, cuts, fills, words)) == len(dune)


def fewest_words(dune, cuts, fills, order):
    """The first, as lists of WORDs rise, of the shortest lists of corners that are enough."""
    almanac = almanac_of(cuts, fills, order)
    begin = (0, tuple(dune))
    end = behind(dune, almanac)
    # Words of cuts ahead leave open what is above the end, words of fills ahead
    # what is below it: so each is as short as can be for itself.
    both = [shortest_ways(Side(almanac, word, end), begin) for word in ("cut", "fill")]
    return [corner_at(order, stop) for stop in first_stops(order, both, begin)]


def first_stops(order, both, begin):
    """The stops of the list that is first, of all that have a shortest way of each of both words."""
    spots = [begin, begin]
    stops = []
    while any([len(ways[spot]) > 0 for ways, spot in zip(both, spots)]):
        word, number, spot = min(next_ones(order, both, spots, stops))
        spots[number] = spot
        stops.append(spot[0])
    return stops


def next_ones(order, both, spots, stops):
    """The list of triples of a WORD that can be the next one, which of both words it has, and the spot there."""
    told = []
    done = max(stops, default=0)
    for number in range(2):
        others = both[1 - number][spots[1 - number]]
        for spot in both[number][spots[number]]:
            # The other word's way has to go on behind this stop, if it goes on.
            fits = len(others) == 0 or others[-1][0] > spot[0]
            if spot[0] > done and fits:
                told.append((corner_at(order, spot[0]), number, spot))
    return told
