"""The plan by which two hands come to be as strong as can be against a lot."""

from metbefore.bars import hands_outside
from metbefore.bounds import MOST
from metbefore.errors import NoMore
from metbefore.hadby import goes_by
from metbefore.histories import last_book
from metbefore.masks import all_sums, bits_of, grown, masks_of, reduced, rest_in, shared, word_of


def best_plan(history, lot, door, guest, *, most=MOST):
    """The greatest strength behind a plan of hands outside the lot, and such a plan; NoMore of too many makings."""
    book, known = last_book(history), goes_by(history, lot)
    bits = bits_of([*known, *[word for purse in book[3] for word in purse]])
    board = grown([], masks_of(book[4], bits))
    # What the board makes counts nowhere: numbers are taken by their rests, which are on no board.
    purses = {hand: _rests(board, purse, bits) for hand, purse in zip(book[1], book[3])}
    helpers = [hand for hand in hands_outside(history, lot) if hand not in (door, guest)]
    plans = _plans_by_makings({hand: purses[hand] for hand in helpers}, most)
    known = _rests(board, known, bits)
    best, plan = 0, ()
    for said in plans:
        strong = _strength(said, purses[door], purses[guest], known)
        if strong > best:
            best, plan = strong, plans[said]
    return best, tuple([(hand, word_of(mask, bits)) for hand, mask in plan])


def _rests(board, words, bits):
    """The rests of words by the rows of the board, as numbers."""
    return [rest_in(board, mask) for mask in masks_of(words, bits)]


def _plans_by_makings(purses, most):
    """Of each making beyond the board to which says of these hands come, by its reduced rows, a plan that does."""
    plans = {(): ()}
    ends = [()]
    while ends:
        further = []
        for said in ends:
            # There are no less than these, whatever comes behind.
            if len(plans) > most:
                raise NoMore(most)
            for hand, mask in _sayable(said, purses):
                making = tuple(sorted(reduced(grown(said, [mask]))))
                if making not in plans:
                    plans[making] = (*plans[said], (hand, mask))
                    further.append(making)
        ends = further
    return plans


def _sayable(said, purses):
    """Each hand with each number that it makes, beyond what was said; of numbers that make the same, one."""
    pairs = []
    for hand, masks in purses.items():
        beyond = grown(said, masks)[len(said):]
        pairs = pairs + [(hand, mask) for mask in all_sums(beyond) if mask]
    return pairs


def _strength(said, ones, others, known):
    """The rank, beyond what is known, of what both make, each with what was said."""
    rows = grown(said, known)
    return len(grown(rows, shared(grown(said, ones), grown(said, others)))) - len(rows)
