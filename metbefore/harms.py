"""The words of a helper whose saying harms no least side."""

from metbefore.leastsides import least_sides
from metbefore.masks import all_sums, book_masks, grown, halves, rest_in, word_of


def harmless(book, door, guest, helper):
    """All words that the helper's purse makes, the board doesn't, and that it can say without harm, rising."""
    bits, board, purses = book_masks(book)
    sides = least_sides(book, door, guest)[1]
    pairs = [halves(board, purses, side) for side in sides]
    masks = [mask for mask in all_sums(grown([], purses[helper])) if rest_in(board, mask)]
    return tuple(sorted([word_of(mask, bits) for mask in masks if not _harms(pairs, mask)]))


def _harms(pairs, mask):
    """Whether both halves of a least side make the number: just then one fewer is held by it behind the say."""
    for ours, theirs in pairs:
        if not rest_in(ours, mask) and not rest_in(theirs, mask):
            return True
    return False
