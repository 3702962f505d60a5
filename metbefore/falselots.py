"""All lots of so many hands that may be false."""

from itertools import combinations


def false_lots(history, door, guest, *, count=1, since=0):
    """All lots of just count hands but door and guest, each with that since; the one of all, where they are fewer."""
    others = [hand for hand in history[1] if hand not in (door, guest)]
    return _lots_of(others, min(count, len(others)), since)


def _lots_of(hands, many, since):
    """All lots of many of the rising hands; the combinations rise as the hands do."""
    return tuple([tuple([(hand, since) for hand in some]) for some in combinations(hands, many)])
