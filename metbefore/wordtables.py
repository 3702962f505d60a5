"""Tables of meetings, and words with other meetings by them."""

from metbefore.errors import NoMeeting
from metbefore.wordkinds import is_meeting, is_pair_of, is_tuple_of, rises


def is_table(thing):
    """Whether it is a rising tuple of pairs of meetings, no elder one twice, no newer one twice."""
    if not is_tuple_of(thing, _is_pair) or not rises([elder for elder, _ in thing]):
        return False
    return len(set([newer for _, newer in thing])) == len(thing)


def _is_pair(thing):
    """Whether it is a pair of meetings."""
    return is_pair_of(thing, is_meeting, is_meeting)


def turned_by(words, table):
    """The words with the newer meeting in the place of each elder one; NoMeeting of the first that is none."""
    newer = dict(table)
    return tuple([_turned(word, newer) for word in words])


def _turned(word, newer):
    """The same of one word."""
    for meeting in word:
        if meeting not in newer:
            raise NoMeeting(meeting)
    return tuple(sorted([newer[meeting] for meeting in word]))
