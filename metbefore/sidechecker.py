"""Looks at any thing as a side of two hands."""

from metbefore.errors import NoPaper
from metbefore.sides import held_by
from metbefore.wordkinds import is_name, is_tuple_of, rises


def lets_side(book, door, guest, thing):
    """How many are held by it, where it is a side; else NoPaper."""
    if not is_tuple_of(thing, is_name) or not rises(thing):
        raise NoPaper("shape", -1)
    for k, name in enumerate(thing):
        if name not in book[1]:
            raise NoPaper("hand", k)
    if door not in thing:
        raise NoPaper("door", -1)
    if guest in thing:
        raise NoPaper("guest", -1)
    return held_by(book, thing)
