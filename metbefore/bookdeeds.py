"""Deeds at a book: by what one is barred, and the book behind it."""

from metbefore.bases import makes
from metbefore.errors import NoDeed
from metbefore.reaches import purse_of, words_of
from metbefore.wordsums import sum_of


def barred_by(book, deed):
    """The word by which a deed, one by kind, is barred; None where it can be done."""
    hands = _hands_of(deed)
    if not all([hand in book[1] for hand in hands]):
        return "hand"
    if deed[0] == "meet":
        return "room" if any([len(purse_of(book, hand)) >= book[0] for hand in hands]) else None
    if deed[0] == "ask":
        return _ask_barred_by(book, deed)
    if deed[0] == "say":
        return _say_barred_by(book, deed)
    purse = purse_of(book, deed[1])
    return None if all([word in purse for word in deed[2:]]) else "word"


def _hands_of(deed):
    """The hands that a deed names."""
    if deed[0] == "meet":
        return deed[1]
    return deed[1:3] if deed[0] == "ask" else deed[1:2]


def _ask_barred_by(book, deed):
    """The same of an "ask" of hands that are there."""
    _, door, guest, shown, row = deed
    if door == guest:
        return "hand"
    for hand in (door, guest):
        words = words_of(book, (hand,))
        if not all([makes(words, word) for word in (*shown, *row)]):
            return "word"
    return None


def _say_barred_by(book, deed):
    """The same of a "say" of a hand that is there."""
    _, hand, word = deed
    if not makes(words_of(book, (hand,)), word):
        return "word"
    return "there" if word in book[4] else None


def done(book, deed):
    """The book behind a deed; NoDeed where it is barred."""
    why = barred_by(book, deed)
    if why is not None:
        raise NoDeed(deed, why)
    return behind(book, deed)


def behind(book, deed):
    """The book behind a deed that isn't barred."""
    room, hands, meetings, purses, board = book
    if deed[0] == "meet":
        fresh = (len(meetings),)
        purses = [_with(purse, (fresh,)) if hand in deed[1] else purse for hand, purse in zip(hands, purses)]
        return room, hands, (*meetings, deed[1]), tuple(purses), board
    if deed[0] == "say":
        return room, hands, meetings, purses, _with(board, (deed[2],))
    if deed[0] == "ask":
        return room, hands, meetings, purses, _with(board, (*deed[3], *deed[4]))
    left = [word for word in purse_of(book, deed[1]) if word not in deed[2:]]
    if deed[0] == "fold":
        left.append(sum_of(deed[2:]))
    purses = [_with((), left) if hand == deed[1] else purse for hand, purse in zip(hands, purses)]
    return room, hands, meetings, tuple(purses), board


def _with(words, more):
    """These words and more, rising, each once."""
    return tuple(sorted(set([*words, *more])))
