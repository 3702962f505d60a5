"""Looks at any thing as an easing of a helper."""

from metbefore.bookdeeds import barred_by, behind
from metbefore.errors import NoPaper
from metbefore.leastsides import least_sides
from metbefore.wordkinds import is_word


def lets_easing(book, door, guest, helper, thing):
    """How many are held by the least sides behind it, where it is an easing; else NoPaper."""
    if not _is_easing(thing):
        raise NoPaper("shape", -1)
    now = book
    if thing[0] == "say":
        say = ("say", helper, thing[1])
        why = barred_by(book, say)
        if why is not None:
            raise NoPaper(why, -1)
        now = behind(book, say)
    drop = ("drop", helper, thing[-1])
    if barred_by(now, drop) is not None:
        raise NoPaper("drop", -1)
    held = least_sides(behind(now, drop), door, guest)[0]
    if held < least_sides(book, door, guest)[0]:
        raise NoPaper("less", -1)
    return held


def _is_easing(thing):
    """Whether it is of either form, with words that aren't void."""
    if not isinstance(thing, tuple) or not all([is_word(part) and part != () for part in thing[1:]]):
        return False
    return (len(thing) == 3 and thing[0] == "say") or (len(thing) == 2 and thing[0] == "drop")
