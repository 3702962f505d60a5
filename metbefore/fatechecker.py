"""Looks at fate papers."""

from metbefore.errors import NoPaper
from metbefore.fates import words_at
from metbefore.histories import last_book
from metbefore.lacks import need_meetings
from metbefore.turns import has_odd
from metbefore.wordkinds import is_number, is_pair_of, is_tuple_of, is_word
from metbefore.wordsums import sum_of


def lets_fate(history, lot, word, thing):
    """The paper's first text, "there" or "lost"; else NoPaper, and NoMeeting ahead of it."""
    need_meetings([word], len(last_book(history)[2]))
    if not _is_paper(thing):
        raise NoPaper("shape", -1)
    kind, told = thing
    if kind == "there":
        _look_at_parts(words_at(history, lot), word, told)
    else:
        _look_at_turn(words_at(history, lot), word, told)
    return kind


def _is_paper(thing):
    """Whether it is of either form, by kind alone."""
    if not isinstance(thing, tuple) or len(thing) != 2:
        return False
    kind, told = thing
    return (kind == "there" and is_tuple_of(told, _is_part)) or (kind == "lost" and is_word(told))


def _is_part(thing):
    """Whether it is a pair of a number and a word."""
    return is_pair_of(thing, is_number, is_word)


def _look_at_parts(standing, word, parts):
    """Refuses parts that don't rise or don't stand there, or whose sum is another word."""
    for k, part in enumerate(parts):
        place, one = part
        if (k > 0 and part <= parts[k - 1]) or place >= len(standing) or one not in standing[place]:
            raise NoPaper("part", k)
    if sum_of([one for _, one in parts]) != word:
        raise NoPaper("sum", -1)


def _look_at_turn(standing, word, turn):
    """Refuses what is no turn of all that stands there and the word."""
    for place, words in enumerate(standing):
        for k, one in enumerate(words):
            if has_odd(turn, one):
                raise NoPaper("even", (place, k))
    if not has_odd(turn, word):
        raise NoPaper("odd", -1)
