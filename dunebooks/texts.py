"""Dunes and almanacs as texts."""

from dunebooks.errors import BadText

FIGURES = "0123456789"
# Python refuses to write out or to read very long numbers, so they go through
# block by block, each of so many figures.
LENGTH = 60
BLOCK = 10 ** 60


def figures_of(number):
    """The plain figures of a number from 0."""
    blocks = []
    left = number
    while left >= BLOCK:
        left, block = divmod(left, BLOCK)
        blocks.append(str(block).zfill(LENGTH))
    blocks.append(str(left))
    return "".join(blocks[::-1])


def number_of_figures(figures):
    """The number that plain figures tell."""
    head = len(figures) % LENGTH
    number = int("0" + figures[:head])
    for at in range(head, len(figures), LENGTH):
        number = number * BLOCK + int(figures[at:at + LENGTH])
    return number


def is_figures(word):
    """Whether a word is plain figures, with no nought ahead but 0."""
    # Python takes other signs than these for figures, too.
    if word == "" or not all([sign in FIGURES for sign in word]):
        return False
    return word == "0" or word[0] != "0"


def number_text(number):
    """The word of any number."""
    return "-" + figures_of(-number) if number < 0 else figures_of(number)


def is_number_word(word):
    """Whether a word is that of a number."""
    if word[:1] == "-":
        return is_figures(word[1:]) and word != "-0"
    return is_figures(word)


def number_in(word):
    """The number of a word that is one's."""
    return -number_of_figures(word[1:]) if word[0] == "-" else number_of_figures(word)


def wind_text(wind):
    """The word of a WIND."""
    word, slope = wind
    return ("c" if word == "cut" else "f") + figures_of(slope)


def is_wind_word(word):
    """Whether a word is that of a WIND."""
    return word[:1] in ("c", "f") and is_figures(word[1:])


def wind_in(word):
    """The WIND of a word that is one's."""
    return ("cut" if word[0] == "c" else "fill", number_of_figures(word[1:]))


def dune_text(dune):
    """The text of a DUNE."""
    return " ".join([number_text(height) for height in dune])


def almanac_text(almanac):
    """The text of an ALMANAC; `-` of no winds."""
    return " ".join([wind_text(wind) for wind in almanac]) if len(almanac) > 0 else "-"


def dune_in(text):
    """The DUNE of which this is the text; BadText."""
    words = text.split(" ")
    for at, word in enumerate(words):
        if not is_number_word(word):
            raise BadText(at)
    return tuple([number_in(word) for word in words])


def almanac_in(text):
    """The ALMANAC of which this is the text; BadText."""
    if text == "-":
        return []
    words = text.split(" ")
    for at, word in enumerate(words):
        if not is_wind_word(word):
            raise BadText(at)
    return [wind_in(word) for word in words]
