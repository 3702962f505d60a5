"""Deeds and histories as texts."""

from metbefore.lineforms import BEGINNING, DEED_FORMS, line_of, texts_of


def deed_line(deed):
    """The line of a deed."""
    return line_of(deed, DEED_FORMS)


def history_text(history):
    """The room and the hands, then a line for each deed."""
    first = " ".join(texts_of(history[:2], BEGINNING))
    return "\n".join([first, *[deed_line(deed) for deed in history[2]]])
