"""How a helper loses a word without harm."""

from metbefore.bases import makes
from metbefore.harms import harmless
from metbefore.reaches import purse_of


def easing_of(book, door, guest, helper):
    """What the helper says and drops, or drops alone, such that no fewer are held; None of a void purse."""
    purse = purse_of(book, helper)
    if purse == ():
        return None
    words = harmless(book, door, guest, helper)
    if not words:
        # Without a harmless word the whole purse holds nothing up, so none of it does.
        return "drop", purse[0]
    spare = [word for word in purse if _is_spare(purse, words[0], word)]
    return "say", words[0], spare[0]


def _is_spare(purse, said, word):
    """Whether what is said, which the purse makes, and the rest of the purse make the word."""
    return makes((said, *[one for one in purse if one != word]), word)
