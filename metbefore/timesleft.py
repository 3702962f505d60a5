"""How often still a door can ask a guest, row behind row."""

from metbefore.enough import are_enough
from metbefore.errors import NoPaper
from metbefore.histories import last_book
from metbefore.masks import all_sums, bits_of, grown, masks_of, reduced, rest_in, word_of
from metbefore.rivals import known_by_lots
from metbefore.sayings import both_can_make
from metbefore.wordkinds import MOST_ASKED, is_row, is_tuple_of, is_word


def schedule_of(history, door, guest, *, strength=1, count=1, since=0):
    """As many rows as can be, each enough with the words of those ahead shown."""
    book = last_book(history)
    both = both_can_make(book, door, guest)
    knowns = list(known_by_lots(history, door, guest, count, since, ()).values())
    bits = bits_of([*both, *[word for known in knowns for word in known]])
    board = grown([], masks_of(book[4], bits))
    # What the board makes is known to each lot: so numbers are taken by their rests, which are on no board.
    masks = [mask for mask in all_sums(grown([], [rest_in(board, mask) for mask in masks_of(both, bits)])) if mask]
    rivals = [grown(board, masks_of(known, bits)) for known in knowns]
    ends = {(): ()}
    told = ()
    while ends:
        told = list(ends.values())[0]
        further = {}
        for shown, rows in ends.items():
            behind = _rows_behind(shown, masks, rivals, strength)
            for making in behind:
                further[making] = (*rows, behind[making])
        ends = further
    return tuple([tuple([word_of(mask, bits) for mask in row]) for row in told])


def times_left(history, door, guest, *, strength=1, count=1, since=0):
    """How many rows such a schedule has."""
    return len(schedule_of(history, door, guest, strength=strength, count=count, since=since))


def lets_schedule(history, door, guest, thing, *, strength=1, count=1, since=0):
    """How many rows it has, where it is such a schedule, of however many; else NoPaper."""
    if not is_tuple_of(thing, _are_words):
        raise NoPaper("shape", -1)
    both = both_can_make(last_book(history), door, guest)
    knowns = list(known_by_lots(history, door, guest, count, since, ()).values())
    for k, row in enumerate(thing):
        if not is_row(row) or not are_enough(both, knowns, row, strength):
            raise NoPaper("row", k)
        knowns = [(*known, *row) for known in knowns]
    return len(thing)


def _are_words(thing):
    """Whether it is a tuple of words, in any order."""
    return is_tuple_of(thing, is_word)


def _rows_behind(shown, masks, rivals, strength):
    """Rows that are enough behind what is shown, by what is made then; none that goes on behind another."""
    told = {}
    barred = [grown(rival, shown) for rival in rivals]
    ends = {shown: ()}
    for _ in range(MOST_ASKED):
        further = _with_one_more(ends, masks)
        for making, row in further.items():
            if _are_strong(barred, row, strength):
                told[making] = row
        # A row that is enough already needs no word more: behind that no more would be left.
        ends = {making: row for making, row in further.items() if making not in told}
    return told


def _with_one_more(ends, masks):
    """Each of these rows with one number more which its making hasn't, by what is made then, as reduced rows."""
    further = {}
    for making, row in ends.items():
        for mask in masks:
            if rest_in(making, mask):
                further[tuple(sorted(reduced(grown(making, [mask]))))] = (*row, mask)
    return further


def _are_strong(barred, row, strength):
    """Whether the row has such a rank beyond each of these rows."""
    return all([len(grown(rows, row)) - len(rows) >= strength for rows in barred])
