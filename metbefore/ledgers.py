"""The chance that those who were false by then were let in at none of the asks."""

from metbefore.asktries import tries_in
from metbefore.fractions import one_less, product_of
from metbefore.histories import books_of


def ledger_of(history, lot):
    """The number and the strength of each "ask" whose door and guest were not false by then, and that chance."""
    tries = [pair for pair in tries_in(books_of(history), history[2], lot) if pair[1] is not None]
    chance = product_of(tuple([one_less((1, 1 << strength)) for _, strength in tries]))
    return tuple(tries), chance
