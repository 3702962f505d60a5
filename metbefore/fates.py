"""A paper of whether a word is lost for good, or where it still is."""

from metbefore.hadby import had_by
from metbefore.histories import last_book
from metbefore.knownpapers import known_paper
from metbefore.lacks import need_meetings


def fate_paper(history, lot, word):
    """Words of places whose sum is the word; or a turn of the words of all places and that one. NoMeeting likewise."""
    need_meetings([word], len(last_book(history)[2]))
    standing = [(place, one) for place, words in enumerate(words_at(history, lot)) for one in words]
    kind, told = known_paper([one for _, one in standing], word)
    if kind == "known":
        return "there", tuple([standing[k] for k in told])
    return "lost", told


def words_at(history, lot):
    """The words of each place: of the hands' purses, of the board, and what the lot had."""
    purses, board = last_book(history)[3:]
    return (*purses, board, had_by(history, lot))
