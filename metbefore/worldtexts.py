"""Rows of a log, and logs, as lines."""

from metbefore.lineforms import ROW_FORMS, WORLD_FORMS, line_of


def row_line(row):
    """The line of a row."""
    return line_of(row, ROW_FORMS)


def log_lines(log):
    """The lines of a log, the world's first."""
    return [line_of(log[0], WORLD_FORMS), *[row_line(row) for row in log[1:]]]
