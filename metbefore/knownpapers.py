"""A paper of whether words make one more."""

from metbefore.bases import base_of
from metbefore.masks import bits_of, grown, mask_of, masks_of, rest_in
from metbefore.rests import rest_of
from metbefore.turns import turn_at


def known_paper(words, word):
    """The places of words whose sum is that one; or a turn of the words and that one, where they don't make it."""
    rest = rest_of(words, word)
    if rest == ():
        return "known", _places_of(words, word)
    return "free", turn_at(base_of(words), rest[0])


def _places_of(words, word):
    """The numbers of words whose sum is the word, which they make."""
    many = len(words)
    bits = bits_of([*words, word])
    # Behind its own bits each number has one of its place: so a sum tells of which places it is.
    marked = [(mask << many) | (1 << k) for k, mask in enumerate(masks_of(words, bits))]
    places = rest_in(grown([], marked), mask_of(word, bits) << many)
    return tuple([k for k in range(many) if (places >> k) & 1])
