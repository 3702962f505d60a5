"""Looks at known papers: whether words make one more, by places, or don't, by a turn."""

from metbefore.errors import NoPaper
from metbefore.turns import has_odd
from metbefore.wordkinds import is_number, is_tuple_of, is_word
from metbefore.wordsums import sum_of


def lets_known(words, word, thing):
    """The paper's first text, "known" or "free"; else NoPaper."""
    if not _is_paper(thing):
        raise NoPaper("shape", -1)
    kind, told = thing
    if kind == "known":
        _look_at_places(words, word, told)
    else:
        _look_at_turn(words, word, told)
    return kind


def _is_paper(thing):
    """Whether it is of either form, by kind alone."""
    if not isinstance(thing, tuple) or len(thing) != 2:
        return False
    kind, told = thing
    return (kind == "known" and is_tuple_of(told, is_number)) or (kind == "free" and is_word(told))


def _look_at_places(words, word, places):
    """Refuses places that aren't rising ones of the words, or whose sum is another word."""
    for k, place in enumerate(places):
        if place >= len(words) or (k > 0 and place <= places[k - 1]):
            raise NoPaper("place", k)
    if sum_of([words[place] for place in places]) != word:
        raise NoPaper("sum", -1)


def _look_at_turn(words, word, turn):
    """Refuses what is no turn of the words and that one."""
    for k, one in enumerate(words):
        if has_odd(turn, one):
            raise NoPaper("even", k)
    if not has_odd(turn, word):
        raise NoPaper("odd", -1)
