"""Histories: the books to which deeds lead, from the first one on."""

from metbefore.bookdeeds import barred_by, behind
from metbefore.bookkinds import first_book, is_deed
from metbefore.errors import NoSuch
from metbefore.wordkinds import is_name, is_number, is_tuple_of, rises


def books_of(history):
    """The first book, then that behind each deed; NoSuch of the first thing that can't be done."""
    books, why = _walked(history)
    if why is not None:
        raise NoSuch(len(books) - 1, why)
    return tuple(books)


def last_book(history):
    """The last one of the books alone."""
    return books_of(history)[-1]


def is_history(thing):
    """Whether any thing is a history."""
    if not isinstance(thing, tuple) or len(thing) != 3:
        return False
    room, hands, deeds = thing
    if not is_number(room) or room == 0 or not is_tuple_of(hands, is_name) or not isinstance(deeds, tuple):
        return False
    return len(hands) >= 2 and rises(hands) and _walked(thing)[1] is None


def _walked(history):
    """The books as far as they go, and why they go no further: None where all is done."""
    room, hands, deeds = history
    books = [first_book(room, hands)]
    for thing in deeds:
        why = barred_by(books[-1], thing) if is_deed(thing) else "shape"
        if why is not None:
            return books, why
        books.append(behind(books[-1], thing))
    return books, None
