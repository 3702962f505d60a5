"""Rows of a log, and logs, out of lines."""

from metbefore.errors import NoText
from metbefore.lineforms import ROW_FORMS, WORLD_FORMS
from metbefore.linewords import line_in


def read_row(text):
    """The row that a line writes; else NoText of the first word that can't stand, or that lacks."""
    return _read(text, ROW_FORMS, 0)


def read_log(lines):
    """The log that lines write; else NoText of the first line that writes none."""
    if not lines:
        raise NoText(0, 0)
    first = _read(lines[0], WORLD_FORMS, 0)
    return (first, *[_read(lines[k], ROW_FORMS, k) for k in range(1, len(lines))])


def _read(text, forms, number):
    """What the line of that number writes by one of the forms."""
    told, place = line_in(text, forms)
    if told is None:
        raise NoText(number, place)
    return told
