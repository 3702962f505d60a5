"""Looks at any thing as a paper of whether sayings can bring two hands more than so many."""

from metbefore.errors import NoPaper
from metbefore.planchecker import lets_plan
from metbefore.sidechecker import lets_side


def lets_more(book, door, guest, thing, *, than=0):
    """The paper's word, "plan" or "side"; else NoPaper."""
    if not isinstance(thing, tuple) or len(thing) != 2:
        raise NoPaper("shape", -1)
    kind, told = thing
    if kind == "plan":
        if lets_plan(book, door, guest, told) <= than:
            raise NoPaper("few", -1)
    elif kind == "side":
        if lets_side(book, door, guest, told) > than:
            raise NoPaper("many", -1)
    else:
        raise NoPaper("shape", -1)
    return kind
