"""Deeds and histories out of texts, by kind alone."""

from metbefore.errors import NoText
from metbefore.lineforms import BEGINNING, DEED_FORMS
from metbefore.linewords import line_in, things_in


def deed_read(text, *, line=0):
    """The deed that a line writes; else NoText of the first word that can't stand, or that lacks."""
    deed, place = line_in(text, DEED_FORMS)
    if deed is None:
        raise NoText(line, place)
    return deed


def history_read(text):
    """The room, the hands and the deeds that lines write; else NoText of the first line that writes none."""
    lines = text.split("\n")
    first, place = things_in(lines[0].split(" "), BEGINNING)
    if first is None:
        raise NoText(0, place)
    return (*first, tuple([deed_read(lines[k], line=k) for k in range(1, len(lines))]))
