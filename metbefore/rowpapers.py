"""A paper of a row that is enough, or of who is in the way."""

from metbefore.histories import last_book
from metbefore.knownpapers import known_paper
from metbefore.rests import base_beyond
from metbefore.rivals import known_by_lots
from metbefore.rowsought import sought
from metbefore.sayings import both_can_make


def sought_paper(history, door, guest, *, strength=1, count=1, since=0, shown=()):
    """The row sought with its turns against each lot; or the lot, with few words that leave nothing beyond it."""
    kind, told = sought(history, door, guest, strength=strength, count=count, since=since, shown=shown)
    knowns = known_by_lots(history, door, guest, count, since, shown)
    if kind == "sent":
        return kind, told, base_beyond(both_can_make(last_book(history), door, guest), knowns[told])
    return kind, told, tuple([_duty(known, told, strength) for known in knowns.values()])


def _duty(known, row, strength):
    """As many pairs of a place and a turn as strength tells, each word beyond what is known and those ahead."""
    pairs = []
    ahead = known
    for place, word in enumerate(row):
        kind, turn = known_paper(ahead, word)
        if kind == "free" and len(pairs) < strength:
            pairs.append((place, turn))
            ahead = (*ahead, word)
    return tuple(pairs)
