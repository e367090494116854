"""Cores: which almanacs do the same to every dune."""

from dunebooks.almanacs import behind, is_almanac
from dunebooks.kinds import is_number


def gentler_ones(almanac):
    """The list of the WINDs with none as gentle or gentler ahead of them."""
    kept = []
    for word, slope in almanac:
        if kept == [] or slope < kept[-1][1]:
            kept.append((word, slope))
    return kept


def core(almanac):
    """The ALMANAC without winds that change nothing behind those ahead of them or are outdone by the next one."""
    kept = []
    for wind in gentler_ones(almanac):
        if kept != [] and kept[-1][0] == wind[0]:
            kept.pop()
        kept.append(wind)
    return kept


def cores_of(almanacs):
    """The rising list of the cores of some almanacs, each of another one."""
    return sorted([core(almanac) for almanac in almanacs])


def is_core(thing):
    """Whether a thing is an ALMANAC that is its own core."""
    return is_almanac(thing) and core(thing) == thing


def alike(one, other):
    """Whether two almanacs lead each DUNE to the same."""
    return core(one) == core(other)


def first_to_shift(almanac, slope):
    """The word of the first wind with that slope at most; None of none."""
    # Of a step of two posts it is this wind that shifts the sand between a gap
    # of so much and one of one more.
    for word, other in almanac:
        if other <= slope:
            return word
    return None


def parting(one, other):
    """The least number from 1 on so that (0, number) is led to unlike dunes; None where they're alike."""
    # Who is the first to shift changes at slopes that the almanacs have only, so
    # no other gap has to be tried.
    slopes = [slope for word, slope in [*one, *other]]
    least = min([slope for slope in slopes if first_to_shift(one, slope) != first_to_shift(other, slope)], default=None)
    return None if least is None else least + 1


def shows_parting(one, other, thing):
    """Whether a thing is a number from 1 on so that (0, number) is led to unlike dunes."""
    if not is_number(thing) or thing < 1:
        return False
    return behind((0, thing), one) != behind((0, thing), other)
