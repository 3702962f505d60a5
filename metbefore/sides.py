"""Sides of two hands, and how many are held by one."""

from metbefore.masks import book_masks, grown, halves


def sides_of(book, door, guest):
    """All sides of door and guest: rising tuples of hands with the door and without the guest."""
    return sides_among(book[1], door, guest)


def sides_among(hands, door, guest):
    """The same of the hands that are handed in."""
    sides = [(door,)]
    for hand in hands:
        if hand not in (door, guest):
            sides = sides + [(*side, hand) for side in sides]
    return tuple(sorted([tuple(sorted(side)) for side in sides]))


def held_by(book, side):
    """How many are held by a side: the rank, beyond the board, of what its hands and the others both make."""
    _, board, purses = book_masks(book)
    return held_in(board, purses, side)


def held_in(board, purses, side):
    """The same of the board's rows and the purses' numbers: both ranks, less that of all and of the board."""
    ours, theirs = halves(board, purses, side)
    return len(ours) + len(theirs) - len(grown(ours, theirs)) - len(board)
