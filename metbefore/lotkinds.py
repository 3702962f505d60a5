"""Whether any thing is a lot of a history."""

from metbefore.bookkinds import is_lot


def is_lot_of(history, thing):
    """Whether it is a lot of the history's hands, each false from behind no more deeds than there are."""
    _, hands, deeds = history
    return is_lot(thing) and all([name in hands and since <= len(deeds) for name, since in thing])
