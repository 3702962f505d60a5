"""How many words the base of what words make has."""

from metbefore.masks import bits_of, grown, masks_of


def rank_of(words):
    """The rank of the words."""
    return len(grown([], masks_of(words, bits_of(words))))


def rank_beyond(words, others):
    """The rank of all together, less that of the others."""
    bits = bits_of([*words, *others])
    rows = grown([], masks_of(others, bits))
    return len(grown(rows, masks_of(words, bits))) - len(rows)
