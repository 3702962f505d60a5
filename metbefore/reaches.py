"""What the hands of a book have, and can make."""

from metbefore.bases import base_of, makes
from metbefore.errors import NoHand


def purse_of(book, hand):
    """The purse of a hand; NoHand where it is none of the book's."""
    hands, purses = book[1], book[3]
    if hand not in hands:
        raise NoHand(hand)
    return purses[hands.index(hand)]


def words_of(book, hands):
    """The words of the board and of the purses of some hands, as they stand there; NoHand likewise."""
    return (*book[4], *[word for hand in hands for word in purse_of(book, hand)])


def can_make(book, hand):
    """The base of what a hand can make."""
    return together(book, (hand,))


def together(book, hands):
    """The base of what some hands make together: of none, of the board."""
    return base_of(words_of(book, hands))


def makers_of(book, word):
    """The hands that can make the word, rising."""
    return tuple([hand for hand in book[1] if makes(words_of(book, (hand,)), word)])
