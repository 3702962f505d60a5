"""Sides against a lot, and what these bar."""

from metbefore.bothmade import both_make
from metbefore.hadby import goes_by
from metbefore.histories import last_book
from metbefore.ranks import rank_beyond
from metbefore.reaches import words_of
from metbefore.sides import sides_among


def sides_against(history, lot, door, guest):
    """All sides of door and guest among the hands outside the lot, rising."""
    return sides_among(hands_outside(history, lot), door, guest)


def bar_of(history, lot, side):
    """The rank, beyond what the lot knows, of what the side's hands and its others both make."""
    return _strength(last_book(history), goes_by(history, lot), side, _others(history, lot, side))


def least_bar(history, lot, door, guest):
    """The least bar, and all sides that have it, rising."""
    book, known = last_book(history), goes_by(history, lot)
    sides = sides_against(history, lot, door, guest)
    told = [_strength(book, known, side, _others(history, lot, side)) for side in sides]
    least = min(told)
    return least, tuple([side for side, bar in zip(sides, told) if bar == least])


def strong_for(history, lot, door, guest):
    """The strength against the lot of what door and guest both make."""
    return _strength(last_book(history), goes_by(history, lot), (door,), (guest,))


def hands_outside(history, lot):
    """The hands that aren't of the lot, rising."""
    false = [hand for hand, _ in lot]
    return tuple([hand for hand in history[1] if hand not in false])


def _others(history, lot, side):
    """The hands outside the lot that aren't in the side."""
    return [hand for hand in hands_outside(history, lot) if hand not in side]


def _strength(book, known, ones, others):
    """The rank, beyond the known words, of what these hands and those both make by their purses and the board."""
    # The known words take no part in what both make: a bar is of the purses and the board alone.
    return rank_beyond(both_make(words_of(book, ones), words_of(book, others)), known)
