"""Looks at any thing as a book."""

from metbefore.errors import NoPaper
from metbefore.wordkinds import is_name, is_number, is_tuple_of, rises


def lets_book(thing):
    """True where it is a book; else NoPaper of the first thing that isn't as it should be."""
    if not _is_formed(thing):
        raise NoPaper("shape", -1)
    room, hands, meetings, purses, board = thing
    if room == 0:
        raise NoPaper("room", -1)
    if len(hands) < 2 or not rises(hands):
        raise NoPaper("hands", -1)
    for m, there in enumerate(meetings):
        if there == () or not rises(there) or not all([hand in hands for hand in there]):
            raise NoPaper("meeting", m)
    if len(purses) != len(hands):
        raise NoPaper("purses", -1)
    for h, purse in enumerate(purses):
        if len(purse) > room:
            raise NoPaper("purse", h)
        wrong = _wrong_word(purse, len(meetings))
        if wrong is not None:
            raise NoPaper("word", (h, wrong))
    wrong = _wrong_word(board, len(meetings))
    if wrong is not None:
        raise NoPaper("board", wrong)
    return True


def _is_formed(thing):
    """Whether it has the form of a book, and names and numbers where a book has them."""
    if not isinstance(thing, tuple) or len(thing) != 5:
        return False
    room, hands, meetings, purses, board = thing
    if not is_number(room) or not _are_names(hands) or not is_tuple_of(meetings, _are_names):
        return False
    return is_tuple_of(purses, _are_lines) and _are_lines(board)


def _are_names(thing):
    """Whether it is a tuple of names, in any order."""
    return is_tuple_of(thing, is_name)


def _are_lines(thing):
    """Whether it is a tuple of tuples of numbers, in any order."""
    return is_tuple_of(thing, _are_numbers)


def _are_numbers(thing):
    """Whether it is a tuple of numbers, in any order."""
    return is_tuple_of(thing, is_number)


def _wrong_word(words, many):
    """The number of the first thing that isn't a word of so many meetings, above the one ahead; None without one."""
    for k, word in enumerate(words):
        if word == () or not rises(word) or word[-1] >= many or (k > 0 and word <= words[k - 1]):
            return k
    return None
