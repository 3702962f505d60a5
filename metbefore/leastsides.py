"""The sides of two hands by which the fewest are held."""

from metbefore.masks import book_masks
from metbefore.sides import held_in, sides_of


def least_sides(book, door, guest):
    """How many are held by a least side, and all least sides, rising."""
    _, board, purses = book_masks(book)
    sides = sides_of(book, door, guest)
    counts = [held_in(board, purses, side) for side in sides]
    least = min(counts)
    return least, tuple([side for side, held in zip(sides, counts) if held == least])
