"""Sums of words, and the sign of one."""

from metbefore.errors import NoMeeting


def sum_of(words):
    """The meetings that stand in an odd number of the words; each counts as often as it stands there."""
    odd = {}
    for word in words:
        for meeting in word:
            odd[meeting] = not odd.get(meeting, False)
    return tuple(sorted([meeting for meeting in odd if odd[meeting]]))


def sign_of(word, signs):
    """The sign of a word by the signs of meetings 0, 1 and so on; NoMeeting of its first one without a sign."""
    sign = 0
    for meeting in word:
        if meeting >= len(signs):
            raise NoMeeting(meeting)
        sign = sign ^ signs[meeting]
    return sign
