"""Words out of texts."""

from metbefore.errors import NoText
from metbefore.linewords import parts_in, word_in


def word_read(text, *, line=0):
    """The word that a text writes; else NoText."""
    word = word_in(text)
    if word is None:
        raise NoText(line, 0)
    return word


def words_read(text, *, line=0):
    """The words that a text writes, in their order; else NoText of the first part that writes none."""
    words = parts_in(text)
    for place, word in enumerate(words):
        if word is None:
            raise NoText(line, place)
    return tuple(words)
