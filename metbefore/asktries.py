"""The asks among deeds, each with how strong its row was then."""

from metbefore.hadby import known_in
from metbefore.ranks import rank_beyond


def tries_in(books, deeds, lot):
    """Of each "ask" its number and its row's strength against those of the lot who were false by then.

    None stands in the place of the strength where the door or the guest was one of these.
    """
    tries = []
    for k, deed in enumerate(deeds):
        if deed[0] == "ask":
            false = [(hand, since) for hand, since in lot if since <= k]
            tries.append((k, _strength_then(books[:k + 1], deed, false)))
    return tries


def _strength_then(books, deed, false):
    """The strength of an "ask" behind these books, with what it shows on the board."""
    _, door, guest, shown, row = deed
    if any([hand in (door, guest) for hand, _ in false]):
        return None
    return rank_beyond(row, (*known_in(books, false), *shown))
