"""Whether any thing is a log, by kind alone."""

from metbefore.bookkinds import is_deed
from metbefore.wordkinds import are_signs, is_name, is_number, is_sign, is_tuple_of, rises


def is_log(thing):
    """Whether it is a tuple of ("world", room, hands) and rows."""
    if not isinstance(thing, tuple) or len(thing) == 0 or not _is_first(thing[0]):
        return False
    return all([_is_row(row) for row in thing[1:]])


def _is_first(thing):
    """Whether it is ("world", room, hands)."""
    if not isinstance(thing, tuple) or len(thing) != 3:
        return False
    word, room, hands = thing
    if word != "world" or not is_number(room) or room == 0:
        return False
    return is_tuple_of(hands, is_name) and len(hands) >= 2 and rises(hands)


def _is_row(thing):
    """Whether it is a row by kind."""
    if not isinstance(thing, tuple) or len(thing) == 0:
        return False
    if thing[0] == "meet":
        return len(thing) == 3 and is_deed(thing[:2]) and is_sign(thing[2])
    if thing[0] == "ask":
        return len(thing) == 6 and is_deed(thing[:5]) and _are_answers(thing[4], thing[5])
    if thing[0] == "greet":
        return len(thing) == 7 and _is_greet(thing)
    return is_deed(thing)


def _is_greet(thing):
    """Whether the things of a "greet" are those of two asks."""
    _, one, other, row, answers, back, backs = thing
    both = is_deed(("ask", one, other, (), row)) and is_deed(("ask", other, one, (), back))
    return both and _are_answers(row, answers) and _are_answers(back, backs)


def _are_answers(row, thing):
    """Whether it is signs, as many as the row has words."""
    return are_signs(thing) and len(thing) == len(row)
