"""Torn pages: the slopes of one lost wind by which a told dune stands behind."""

from dunebooks.almanacs import behind
from dunebooks.beside import is_below
from dunebooks.dunes import steepest
from dunebooks.winds import blown


def is_ahead(word, one, other):
    """Whether the one dune is nowhere further than the other, as steeper winds of that word lead on."""
    # The steeper a cut, the more it leaves; the steeper a fill, the less it brings.
    return is_below(one, other) if word == "cut" else is_below(other, one)


def first_slope(end, is_so):
    """The least slope from 0 to the end of which it is so, if it is so of all behind it; of none one more."""
    low = 0
    high = end + 1
    while low < high:
        middle = (low + high) // 2
        if is_so(middle):
            high = middle
        else:
            low = middle + 1
    return low


def slopes_for(dune, ahead, word, later, told):
    """The pair of the least and the greatest slope of the lost wind, None where there's no end; None of no slope."""
    if len(told) != len(dune):
        return None
    before = behind(dune, ahead)
    # From here on the lost wind changes nothing.
    end = steepest(before)

    def led_to(slope):
        return behind(blown(before, (word, slope)), later)

    # No wind, the later ones neither, leads a dune past one that was nowhere
    # less far: so what stands behind goes on with the slope, never back.
    least = first_slope(end, lambda slope: is_ahead(word, told, led_to(slope)))
    beyond = first_slope(end, lambda slope: not is_ahead(word, led_to(slope), told))
    if least >= beyond:
        return None
    return (least, beyond - 1 if beyond <= end else None)


def fits_torn(dune, ahead, later, told):
    """The list of the words for which some slope leads to the told dune."""
    return [word for word in ("cut", "fill") if slopes_for(dune, ahead, word, later, told) is not None]
