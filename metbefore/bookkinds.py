"""Kinds of any thing, whatever book there is: deeds, lots; and the first book."""

from metbefore.wordkinds import is_asked, is_name, is_number, is_pair_of, is_row, is_tuple_of, rises


def is_deed(thing):
    """Whether it is a deed by kind alone."""
    if not isinstance(thing, tuple) or len(thing) < 2:
        return False
    if thing[0] == "meet":
        return len(thing) == 2 and thing[1] != () and is_tuple_of(thing[1], is_name) and rises(thing[1])
    if not is_name(thing[1]):
        return False
    if thing[0] == "fold":
        return len(thing) == 4 and is_row(thing[2:])
    if thing[0] == "ask":
        return len(thing) == 5 and is_name(thing[2]) and is_row(thing[3]) and is_asked(thing[4])
    return thing[0] in ("drop", "say") and len(thing) == 3 and is_row(thing[2:])


def is_lot(thing):
    """Whether it is a lot by kind alone: a rising tuple of pairs of a name and a number, no name twice."""
    return is_tuple_of(thing, _is_since) and rises([pair[0] for pair in thing])


def _is_since(thing):
    """Whether it is a pair of a name and a number."""
    return is_pair_of(thing, is_name, is_number)


def first_book(room, hands):
    """The book without meetings, with void purses and a void board."""
    return room, hands, (), tuple([() for _ in hands]), ()
