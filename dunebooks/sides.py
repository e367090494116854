"""One side of an order: what is left open where only some of its corners of one word are told."""

from dunebooks.almanacs import behind
from dunebooks.cores import core


class Side:
    """The corners of one word of an order, on the way to the dune behind it.

    A corner is known by its stop: how many winds are done when the first of its two is. A spot is a pair of a stop
    and the DUNE there, when between the stops that were told the winds of the word come as late as can be.
    """

    def __init__(self, almanac, word, end):
        self.almanac = almanac
        self.word = word
        self.end = end
        self.stops = [
            at + 1 for at, wind in enumerate(almanac[:-1]) if wind[0] == word and almanac[at + 1][0] != word
        ]

    def onward(self, spot, stop):
        """The spot at a later stop, when none between is told."""
        winds = self.almanac[spot[0]:stop]
        others = [wind for wind in winds if wind[0] != self.word]
        own = [wind for wind in winds if wind[0] == self.word]
        # A core of these has two winds at most, and does the same.
        return (stop, behind(spot[1], core(others + own)))

    def is_enough(self, spot):
        """Whether it leads to the end when no more corners are told."""
        return self.onward(spot, len(self.almanac))[1] == self.end

    def is_lost(self, spot):
        """Whether it doesn't lead to the end even when all later corners are told."""
        return behind(spot[1], core(self.almanac[spot[0]:])) != self.end

    def further(self, spot):
        """The list of the spots at each later stop from which the end can still be led to."""
        spots = [self.onward(spot, stop) for stop in self.stops if stop > spot[0]]
        return [later for later in spots if not self.is_lost(later)]


def shortest_ways(side, begin):
    """By each spot on a way to the end with the fewest corners: the list of the next ones on such ways."""
    ahead = {}
    rounds = [[begin]]
    while not any([side.is_enough(spot) for spot in rounds[-1]]):
        for spot in rounds[-1]:
            ahead[spot] = side.further(spot)
        # What was come to with fewer corners is not gone on from once more.
        found = {later: True for spot in rounds[-1] for later in ahead[spot] if later not in ahead}
        rounds.append(list(found))
    ways = {spot: [] for spot in rounds[-1] if side.is_enough(spot)}
    for spots in rounds[-2::-1]:
        for spot in spots:
            later = [following for following in ahead[spot] if following in ways]
            if len(later) > 0:
                ways[spot] = later
    return ways
