"""Words as whole numbers, a bit for each meeting: their sum is ^, and what they make is told by rows.

The first meeting has the highest bit, so the highest bit of a number is the first meeting of its word.
Rows are a list of such numbers in which the highest bit of one stands in none of those behind it.
"""


def bits_of(words):
    """The bit of each meeting that stands in the words, the meetings rising."""
    meetings = sorted({meeting for word in words for meeting in word})
    last = len(meetings) - 1
    return {meeting: 1 << (last - k) for k, meeting in enumerate(meetings)}


def mask_of(word, bits):
    """The number of a word."""
    return sum([bits[meeting] for meeting in word])


def masks_of(words, bits):
    """The numbers of words, in their order."""
    return [mask_of(word, bits) for word in words]


def word_of(mask, bits):
    """The word of a number."""
    return tuple([meeting for meeting, bit in bits.items() if mask & bit])


def rest_in(rows, mask):
    """What the rows leave of a number, without the highest bit of any of them: 0 where they make it."""
    rest = mask
    for row in rows:
        # No row behind this one brings its highest bit back, so one walk is enough.
        if rest ^ row < rest:
            rest = rest ^ row
    return rest


def grown(rows, masks):
    """New rows, which make what the rows and the numbers make together."""
    more = list(rows)
    for mask in masks:
        rest = rest_in(more, mask)
        if rest:
            more.append(rest)
    return more


def all_sums(rows):
    """All that the rows make, 0 too, each once."""
    sums = [0]
    for row in rows:
        sums = sums + [one ^ row for one in sums]
    return sums


def book_masks(book):
    """Of a book the bits of its meetings, the rows of its board, and the numbers of each hand's purse."""
    hands, purses, board = book[1], book[3], book[4]
    bits = bits_of([*board, *[word for purse in purses for word in purse]])
    rows = grown([], masks_of(board, bits))
    return bits, rows, {hand: masks_of(purse, bits) for hand, purse in zip(hands, purses)}


def halves(board, purses, side):
    """The rows of what the hands of a side make with the board, and of what the others do."""
    ours = [mask for hand in purses if hand in side for mask in purses[hand]]
    theirs = [mask for hand in purses if hand not in side for mask in purses[hand]]
    return grown(board, ours), grown(board, theirs)
