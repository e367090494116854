"""A desk: rows of a text, told to a yard, and its answers."""

from dunebooks.cores import core
from dunebooks.dunes import sand, steepest
from dunebooks.errors import BadRow, NoPost
from dunebooks.longbooks import behind_last_hand, long_many
from dunebooks.texts import almanac_text, dune_text, is_figures, is_number_word, number_in, number_text
from dunebooks.yard import Yard


def yes_or_no(is_so):
    """The answer to what is asked whether it's so."""
    return "yes" if is_so else "no"


def dune_answer(yard):
    """The text of the dune."""
    return dune_text(yard.dune())


def sand_answer(yard):
    """How much sand there is."""
    return number_text(sand(yard.dune()))


def steepest_answer(yard):
    """How steep the dune is."""
    return number_text(steepest(yard.dune()))


def core_answer(yard):
    """The text of the core of the WINDs behind the last hand."""
    return almanac_text(core(behind_last_hand(yard.entries())))


def may_answer(yard):
    """The texts of both dunes between which all lies that may stand."""
    least, greatest = yard.may()
    return dune_text(least) + " / " + dune_text(greatest)


def sure_answer(yard):
    """Whether all is sure."""
    return yes_or_no(yard.is_sure())


def many_answer(yard):
    """How many rows of ENTRYs both keepers' books have."""
    return number_text(long_many(yard.kept_by("cut"), yard.kept_by("fill")))


ASKS = {
    "dune": dune_answer,
    "sand": sand_answer,
    "steepest": steepest_answer,
    "core": core_answer,
    "may": may_answer,
    "sure": sure_answer,
    "many": many_answer,
}


def is_first_row(words):
    """Whether the words of a row are `dune` and a DUNE's text."""
    return words[0] == "dune" and len(words) > 1 and all([is_number_word(word) for word in words[1:]])


def is_later_row(words):
    """Whether the words of a row are those of a deed or of an ask."""
    head, *rest = words
    if head in ("cut", "fill"):
        return len(rest) == 1 and is_figures(rest[0])
    if head == "hand":
        return len(rest) == 2 and is_figures(rest[0]) and is_number_word(rest[1]) and rest[1] != "0"
    return len(rest) == 0 and (head == "undo" or head in ASKS)


def refuse_bad_rows(rows):
    """Refuses the first row that isn't so written; BadRow."""
    for number, words in enumerate(rows):
        is_good = is_first_row(words) if number == 0 else is_later_row(words)
        if not is_good:
            raise BadRow(number)


def hand_answer(yard, post, by):
    """Does a hand, if there's such a post."""
    try:
        yard.hand(post, by)
    except NoPost:
        return "refused NoPost"
    return "done"


def answer(yard, words):
    """Does what a row's words tell; the answer."""
    head = words[0]
    if head in ("cut", "fill"):
        return number_text(sum(yard.blow(head, number_in(words[1]))))
    if head == "hand":
        return hand_answer(yard, number_in(words[1]), number_in(words[2]))
    if head == "undo":
        return yes_or_no(yard.undo())
    ask = ASKS[head]
    return ask(yard)


def answers(text):
    """The list of the answers to all rows but the first; BadRow."""
    rows = [row.split(" ") for row in text.split("\n")]
    refuse_bad_rows(rows)
    yard = Yard([number_in(word) for word in rows[0][1:]])
    told = []
    for words in rows[1:]:
        told.append(answer(yard, words))
    return told
