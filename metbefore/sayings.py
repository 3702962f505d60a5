"""What is free to two hands, and what it comes to behind a plan."""

from metbefore.bookdeeds import barred_by, behind
from metbefore.bothmade import both_make
from metbefore.errors import NoPaper
from metbefore.ranks import rank_beyond
from metbefore.reaches import words_of
from metbefore.wordkinds import is_name, is_pair_of, is_tuple_of, is_word


def free_to(book, door, guest):
    """How many are free to door and guest: the rank, beyond the board, of what they both make."""
    return rank_beyond(both_can_make(book, door, guest), book[4])


def both_can_make(book, door, guest):
    """The base of what door and guest both make, each with the board."""
    return both_make(words_of(book, (door,)), words_of(book, (guest,)))


def behind_plan(book, door, guest, thing):
    """The book behind any thing that is a plan of door and guest; else NoPaper."""
    if not is_tuple_of(thing, _is_saying):
        raise NoPaper("shape", -1)
    now = book
    for k, pair in enumerate(thing):
        say = ("say", *pair)
        why = "hand" if pair[0] in (door, guest) else barred_by(now, say)
        if why is not None:
            raise NoPaper(why, k)
        now = behind(now, say)
    return now


def _is_saying(thing):
    """Whether it is a pair of a name and a word that isn't void."""
    return is_pair_of(thing, is_name, is_word) and thing[1] != ()
