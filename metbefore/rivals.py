"""What those know who may be false."""

from metbefore.falselots import false_lots
from metbefore.hadby import known_in
from metbefore.histories import books_of


def known_by_lots(history, door, guest, count, since, shown):
    """Of each lot of so many, as these rise, the words that it goes by, and the shown ones."""
    books = books_of(history)
    lots = false_lots(history, door, guest, count=count, since=since)
    return {lot: (*known_in(books, lot), *shown) for lot in lots}
