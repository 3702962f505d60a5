"""The fewest words that are enough for a door, or who is in the way."""

from itertools import combinations

from metbefore.enough import are_enough
from metbefore.histories import last_book
from metbefore.leastwords import least_beyond
from metbefore.masks import bits_of, grown, masks_of
from metbefore.rivals import known_by_lots
from metbefore.sayings import both_can_make
from metbefore.wordkinds import MOST_ASKED


def is_enough(history, door, guest, row, *, strength=1, count=1, since=0, shown=()):
    """Whether both can make the one to four words of the row, and these are so strong against each such lot."""
    both = both_can_make(last_book(history), door, guest)
    knowns = known_by_lots(history, door, guest, count, since, shown)
    return are_enough(both, list(knowns.values()), row, strength)


def sought(history, door, guest, *, strength=1, count=1, since=0, shown=()):
    """The least row of the fewest words that is enough; or the least lot against which nothing is."""
    book = last_book(history)
    both = both_can_make(book, door, guest)
    knowns = known_by_lots(history, door, guest, count, since, shown)
    bits = bits_of([*both, *[word for known in knowns.values() for word in known]])
    masks = masks_of(both, bits)
    rivals = {lot: grown([], masks_of(known, bits)) for lot, known in knowns.items()}
    for lot, rival in rivals.items():
        if not _is_strong(rival, masks, strength):
            return "sent", lot
    rows = grown([], masks_of((*book[4], *shown), bits))
    row = _least_row(least_beyond(rows, masks, bits), list(rivals.values()), strength)
    # Only where there is room for more than four words it may be that no row does, and no lot bars it alone.
    return ("row", row) if row else ("sent", list(rivals)[0])


def _least_row(pairs, rivals, strength):
    """The least of the fewest words that are strong beyond each rival's; of pairs (word, number), rising."""
    for many in range(1, MOST_ASKED + 1):
        for some in combinations(pairs, many):
            masks = [mask for _, mask in some]
            if all([_is_strong(rival, masks, strength) for rival in rivals]):
                return tuple([word for word, _ in some])
    return ()


def _is_strong(rival, masks, strength):
    """Whether the numbers have such a rank beyond the rival's rows."""
    return len(grown(rival, masks)) - len(rival) >= strength
