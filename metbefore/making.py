"""All that words make."""

from metbefore.bounds import MOST
from metbefore.errors import NoMore
from metbefore.masks import all_sums, bits_of, grown, masks_of, power_beyond, word_of


def all_made(words, *, most=MOST):
    """All that the words make, rising; NoMore where these are more than most."""
    bits = bits_of(words)
    rows = grown([], masks_of(words, bits))
    if power_beyond(len(rows), most):
        raise NoMore(most)
    return tuple(sorted([word_of(mask, bits) for mask in all_sums(rows)]))
