"""Almanacs: winds, done one behind the other."""

from dunebooks.dunes import sand
from dunebooks.winds import blown, is_idle, is_wind


def is_almanac(thing):
    """Whether a thing is an ALMANAC: a list of WINDs, or of none."""
    return isinstance(thing, list) and all([is_wind(wind) for wind in thing])


def days(dune, almanac):
    """The list of the DUNE at first and the ones behind each wind."""
    rows = [tuple(dune)]
    for wind in almanac:
        rows.append(blown(rows[-1], wind))
    return rows


def behind(dune, almanac):
    """The DUNE behind all winds."""
    return days(dune, almanac)[-1]


def amount(wind, ahead, after):
    """The pair of what a wind took and brought that led one dune to the other."""
    change = sand(after) - sand(ahead)
    return (-change, 0) if wind[0] == "cut" else (0, change)


def amounts(dune, almanac):
    """The list, wind by wind, of pairs of what it took and what it brought."""
    rows = days(dune, almanac)
    return [amount(wind, ahead, after) for wind, ahead, after in zip(almanac, rows, rows[1:])]


def idle_in(dune, almanac):
    """The rising list of the numbers of the winds that change nothing, as they come."""
    rows = days(dune, almanac)
    return [number for number, wind in enumerate(almanac) if is_idle(rows[number], wind)]


def gentlest(almanac):
    """The least slope; None of no winds."""
    return min([slope for word, slope in almanac], default=None)


def can_stand(dune, almanac):
    """Whether the almanac leads some dune of as many posts to this one."""
    # The gentlest wind leaves nothing that another would change, so what the
    # almanac comes to it leaves as it is: no other dune has to be tried.
    return behind(dune, almanac) == tuple(dune)
