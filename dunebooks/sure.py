"""The fewest words that make all sure."""

from dunebooks.almanacs import behind
from dunebooks.between import sure_posts
from dunebooks.cores import core
from dunebooks.orders import almanac_of


class Side:
    """The corners of one word of an order, on the way to the dune behind it.

    A corner is known by its stop: how many winds are done when the first of its two is. A spot is a pair of a stop
    and the DUNE there, when between the stops that were told the winds of the word come as late as can be.
    """

    def __init__(self, almanac, word, end):
        self.almanac = almanac
        self.word = word
        self.end = end
        self.stops = [
            at + 1 for at, wind in enumerate(almanac[:-1]) if wind[0] == word and almanac[at + 1][0] != word
        ]

    def onward(self, spot, stop):
        """The spot at a later stop, when none between is told."""
        winds = self.almanac[spot[0]:stop]
        others = [wind for wind in winds if wind[0] != self.word]
        own = [wind for wind in winds if wind[0] == self.word]
        # A core of these has two winds at most, and does the same.
        return (stop, behind(spot[1], core(others + own)))

    def is_there(self, spot):
        """Whether it leads to the end when no more corners are told."""
        return self.onward(spot, len(self.almanac))[1] == self.end

    def is_lost(self, spot):
        """Whether it doesn't lead to the end even when all later corners are told."""
        return behind(spot[1], core(self.almanac[spot[0]:])) != self.end

    def further(self, spot):
        """The list of the spots at each later stop from which the end can still be led to."""
        spots = [self.onward(spot, stop) for stop in self.stops if stop > spot[0]]
        return [later for later in spots if not self.is_lost(later)]


def shortest_ways(side, begin):
    """By each spot on a way to the end with the fewest corners: the list of the next ones on such ways."""
    ahead = {}
    rounds = [[begin]]
    while not any([side.is_there(spot) for spot in rounds[-1]]):
        for spot in rounds[-1]:
            ahead[spot] = side.further(spot)
        # What was come to with fewer corners is not gone on from once more.
        found = {later: True for spot in rounds[-1] for later in ahead[spot] if later not in ahead}
        rounds.append(list(found))
    ways = {spot: [] for spot in rounds[-1] if side.is_there(spot)}
    for spots in rounds[-2::-1]:
        # All are asked before any is added: to go by a spot of the same round takes one corner more.
        onward = {spot: [later for later in ahead[spot] if later in ways] for spot in spots}
        for spot in spots:
            if len(onward[spot]) > 0:
                ways[spot] = onward[spot]
    return ways


def corner_stops(order):
    """The rising list of how many are done, in an order, when the first of two unlike neighbours is."""
    return [at + 1 for at in range(len(order) - 1) if order[at] != order[at + 1]]


def corner_at(order, stop):
    """The WORD of the two unlike neighbours of which the first one is the last done there."""
    ahead = order[:stop - 1]
    return ("cut" if order[stop - 1] == "c" else "fill", ahead.count("c"), ahead.count("f"))


def corners(order):
    """The list of the WORDs that tell of unlike neighbours which was ahead."""
    return [corner_at(order, stop) for stop in corner_stops(order)]


def is_enough(dune, cuts, fills, words):
    """Whether all posts are sure; Clash."""
    return len(sure_posts(dune, cuts, fills, words)) == len(dune)


def fewest_words(dune, cuts, fills, order):
    """The first, as lists of WORDs rise, of the shortest lists of corners that are enough."""
    almanac = almanac_of(cuts, fills, order)
    begin = (0, tuple(dune))
    end = behind(dune, almanac)
    # Words of cuts ahead leave open what is above the end, words of fills ahead
    # what is below it: so each is as short as can be for itself.
    both = [shortest_ways(Side(almanac, word, end), begin) for word in ("cut", "fill")]
    return [corner_at(order, stop) for stop in first_stops(order, both, begin)]


def first_stops(order, both, begin):
    """The stops of the list that is first, of all that have a shortest way of each of both words."""
    spots = [begin, begin]
    stops = []
    while any([len(ways[spot]) > 0 for ways, spot in zip(both, spots)]):
        word, number, spot = min(next_ones(order, both, spots, stops))
        spots[number] = spot
        stops.append(spot[0])
    return stops


def next_ones(order, both, spots, stops):
    """The list of triples of a WORD that can be the next one, which of both words it has, and the spot there."""
    told = []
    done = max(stops, default=0)
    for number in range(2):
        others = both[1 - number][spots[1 - number]]
        for spot in both[number][spots[number]]:
            # The other word's way has to go on behind this stop, if it goes on.
            fits = len(others) == 0 or others[-1][0] > spot[0]
            if spot[0] > done and fits:
                told.append((corner_at(order, spot[0]), number, spot))
    return told
