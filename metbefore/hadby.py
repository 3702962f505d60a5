"""What the false hands of a lot had, and what they know by it."""

from metbefore.bases import base_of
from metbefore.histories import books_of
from metbefore.reaches import purse_of


def had_by(history, lot):
    """All words that stood in the purse of one of the lot from its since on, rising."""
    return _had_in(books_of(history), lot)


def goes_by(history, lot):
    """What it had and the words of the board, rising."""
    return known_in(books_of(history), lot)


def knows_of(history, lot):
    """The base of what it knows."""
    return base_of(goes_by(history, lot))


def known_in(books, lot):
    """What a lot had in these books, and the words of the last one's board, rising."""
    return tuple(sorted(set([*_had_in(books, lot), *books[-1][4]])))


def _had_in(books, lot):
    """What a lot had in these books; none that it held later is forgotten."""
    return tuple(sorted({word for hand, since in lot for book in books[since:] for word in purse_of(book, hand)}))
