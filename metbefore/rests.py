"""What is left of words where others are taken out as far as can be."""

from metbefore.masks import base_words, bits_of, grown, mask_of, masks_of, rest_in, word_of


def rest_of(words, word):
    """The sum of the word and one that the words make, without the first meeting of any word of their base."""
    bits = bits_of([*words, word])
    return word_of(rest_in(grown([], masks_of(words, bits)), mask_of(word, bits)), bits)


def base_beyond(words, others):
    """The base of the rests of the words by the others."""
    bits = bits_of([*words, *others])
    rows = grown([], masks_of(others, bits))
    return base_words([rest_in(rows, mask) for mask in masks_of(words, bits)], bits)
