"""The base of what words make, and whether they make one."""

from metbefore.masks import bits_of, grown, mask_of, masks_of, rest_in, word_of


def base_of(words):
    """The words that make the same, rising, in which none has the first meeting of another one."""
    bits = bits_of(words)
    rows = grown([], masks_of(words, bits))
    # No row has the highest bit of one ahead of it: only those of the rows behind it are left to take out.
    base = [rest_in(rows[k + 1:], row) for k, row in enumerate(rows)]
    return tuple(sorted([word_of(mask, bits) for mask in base]))


def makes(words, word):
    """Whether the word is the sum of some of the words, perhaps of none."""
    bits = bits_of([*words, word])
    return rest_in(grown([], masks_of(words, bits)), mask_of(word, bits)) == 0
