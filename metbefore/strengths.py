"""How strong a row is against lots of the false."""

from metbefore.hadby import goes_by
from metbefore.histories import last_book
from metbefore.ranks import rank_beyond
from metbefore.rivals import known_by_lots
from metbefore.sayings import both_can_make


def strength_of(history, lot, row, *, shown=()):
    """The rank of the row beyond what the lot knows, with the shown words on the board besides."""
    return rank_beyond(row, (*goes_by(history, lot), *shown))


def full_strength(history, door, guest, lot, *, shown=()):
    """The rank, beyond what the lot knows and the shown words, of all that door and guest both make."""
    return strength_of(history, lot, both_can_make(last_book(history), door, guest), shown=shown)


def weakest(history, door, guest, row, *, count=1, since=0, shown=()):
    """The least strength of the row against a lot of so many, and the least lot against which it has that."""
    knowns = known_by_lots(history, door, guest, count, since, shown)
    return min([(rank_beyond(row, known), lot) for lot, known in knowns.items()])
