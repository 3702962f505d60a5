"""The base of what words make, and whether they make one."""

from metbefore.masks import base_words, bits_of, grown, mask_of, masks_of, rest_in


def base_of(words):
    """The words that make the same, rising, in which none has the first meeting of another one."""
    bits = bits_of(words)
    return base_words(masks_of(words, bits), bits)


def makes(words, word):
    """Whether the word is the sum of some of the words, perhaps of none."""
    bits = bits_of([*words, word])
    return rest_in(grown([], masks_of(words, bits)), mask_of(word, bits)) == 0
