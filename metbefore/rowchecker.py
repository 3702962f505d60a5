"""Looks at papers of rows that are enough, or of who is in the way."""

from metbefore.bases import makes
from metbefore.errors import NoPaper
from metbefore.histories import last_book
from metbefore.rivals import known_by_lots
from metbefore.sayings import both_can_make
from metbefore.turns import is_turn
from metbefore.wordkinds import MOST_ASKED, is_name, is_number, is_pair_of, is_tuple_of, is_word


def lets_sought(history, door, guest, thing, *, strength=1, count=1, since=0, shown=()):
    """The paper's word, "row" or "sent"; else NoPaper."""
    if not _is_paper(thing):
        raise NoPaper("shape", -1)
    kind, ones, others = thing
    both = both_can_make(last_book(history), door, guest)
    knowns = known_by_lots(history, door, guest, count, since, shown)
    if kind == "row":
        _look_at_row(both, ones)
        _look_at_duties(list(knowns.values()), ones, others, strength)
    else:
        _look_at_sent(both, knowns, ones, others, strength)
    return kind


def _is_paper(thing):
    """Whether it is of either form, by kind alone."""
    if not isinstance(thing, tuple) or len(thing) != 3:
        return False
    kind, ones, others = thing
    if kind == "row":
        return is_tuple_of(ones, is_word) and is_tuple_of(others, _is_duty)
    return kind == "sent" and is_tuple_of(ones, _is_since) and is_tuple_of(others, is_word)


def _is_duty(thing):
    """Whether it is a tuple of pairs of a number and a word."""
    return is_tuple_of(thing, _is_turned)


def _is_turned(thing):
    """Whether it is a pair of a number and a word."""
    return is_pair_of(thing, is_number, is_word)


def _is_since(thing):
    """Whether it is a pair of a name and a number."""
    return is_pair_of(thing, is_name, is_number)


def _look_at_row(both, row):
    """Refuses what is no row of one to four words that both make."""
    if not 1 <= len(row) <= MOST_ASKED:
        raise NoPaper("many", -1)
    for k, word in enumerate(row):
        if word == () or word in row[:k] or not makes(both, word):
            raise NoPaper("word", k)


def _look_at_duties(knowns, row, duties, strength):
    """Refuses turns that don't show such a strength beyond what each lot knows."""
    if len(duties) != len(knowns):
        raise NoPaper("lots", -1)
    for n, known in enumerate(knowns):
        if len(duties[n]) != strength:
            raise NoPaper("pairs", n)
        ahead, last = known, -1
        for i, pair in enumerate(duties[n]):
            place, turn = pair
            if not last < place < len(row):
                raise NoPaper("place", (n, i))
            if not is_turn(ahead, row[place], turn):
                raise NoPaper("turn", (n, i))
            ahead, last = (*ahead, row[place]), place


def _look_at_sent(both, knowns, lot, words, strength):
    """Refuses what is no such lot, or words too many, or too few to leave nothing beyond it."""
    if lot not in knowns:
        raise NoPaper("lot", -1)
    if len(words) >= strength:
        raise NoPaper("many", -1)
    ahead = (*knowns[lot], *words)
    if not all([makes(ahead, word) for word in both]):
        raise NoPaper("makes", -1)
