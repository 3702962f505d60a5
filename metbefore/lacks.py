"""What isn't there."""

from metbefore.errors import NoMeeting


def need_meetings(words, many):
    """NoMeeting of the first meeting, word by word, that isn't below many."""
    for word in words:
        for meeting in word:
            if meeting >= many:
                raise NoMeeting(meeting)
