"""What two lots of words both make, each by itself."""

from metbefore.masks import base_words, bits_of, grown, masks_of, rest_in, shared


def both_make(one, other):
    """The base of what both make."""
    bits = bits_of([*one, *other])
    return base_words(shared(masks_of(one, bits), masks_of(other, bits)), bits)


def both_beyond(one, other, others):
    """The base of the rests, by the others, of what the one with them, and the other with them, both make."""
    bits = bits_of([*one, *other, *others])
    rows = grown([], masks_of(others, bits))
    both = shared(grown(rows, masks_of(one, bits)), grown(rows, masks_of(other, bits)))
    return base_words([rest_in(rows, mask) for mask in both], bits)
