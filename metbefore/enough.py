"""Whether rows are enough."""

from metbefore.bases import makes
from metbefore.ranks import rank_beyond
from metbefore.wordkinds import MOST_ASKED


def are_enough(both, knowns, row, strength):
    """Whether it has one to four words, all made by both, and such a strength beyond each of what lots know."""
    if not 1 <= len(row) <= MOST_ASKED or not all([makes(both, word) for word in row]):
        return False
    return all([rank_beyond(row, known) >= strength for known in knowns])
