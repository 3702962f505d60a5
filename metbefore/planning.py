"""A plan by which two hands come to all that any side lets them have."""

from metbefore.harms import harmless


def plan_of(book, door, guest):
    """A plan behind which as many are free to door and guest as are held by a least side ahead of it."""
    plan = []
    now = book
    for helper in book[1]:
        if helper not in (door, guest):
            words = harmless(now, door, guest, helper)
            while words:
                plan.append((helper, words[0]))
                now = _said(now, words[0])
                words = harmless(now, door, guest, helper)
            # What is left of the purse holds nothing up: without it no least side has fewer.
            now = _emptied(now, helper)
    return tuple(plan)


def _said(book, word):
    """The book with the word, which isn't on its board, on it."""
    room, hands, meetings, purses, board = book
    return room, hands, meetings, purses, tuple(sorted([*board, word]))


def _emptied(book, helper):
    """The book with a void purse of the helper."""
    room, hands, meetings, purses, board = book
    left = tuple([() if hand == helper else purse for hand, purse in zip(hands, purses)])
    return room, hands, meetings, left, board
