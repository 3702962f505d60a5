"""Words as whole numbers, a bit for each meeting: their sum is ^, and what they make is told by rows.

The first meeting has the highest bit, so the highest bit of a number is the first meeting of its word.
Rows are a list of such numbers in which the highest bit of one stands in none of those behind it.
"""


def bits_of(words):
    """The bit of each meeting that stands in the words, the meetings rising."""
    meetings = sorted({meeting for word in words for meeting in word})
    last = len(meetings) - 1
    return {meeting: 1 << (last - k) for k, meeting in enumerate(meetings)}


def mask_of(word, bits):
    """The number of a word."""
    return sum([bits[meeting] for meeting in word])


def masks_of(words, bits):
    """The numbers of words, in their order."""
    return [mask_of(word, bits) for word in words]


def word_of(mask, bits):
    """The word of a number."""
    return tuple([meeting for meeting, bit in bits.items() if mask & bit])


def rest_in(rows, mask):
    """What the rows leave of a number, without the highest bit of any of them: 0 where they make it."""
    rest = mask
    for row in rows:
        # No row behind this one brings its highest bit back, so one walk is enough.
        if rest ^ row < rest:
            rest = rest ^ row
    return rest


def grown(rows, masks):
    """New rows, which make what the rows and the numbers make together."""
    more = list(rows)
    for mask in masks:
        rest = rest_in(more, mask)
        if rest:
            more.append(rest)
    return more


def reduced(rows):
    """Rows that make the same, in which no row has the highest bit of another one: there are just these."""
    # No row has the highest bit of one ahead of it: only those of the rows behind it are left to take out.
    return [rest_in(rows[k + 1:], row) for k, row in enumerate(rows)]


def base_words(masks, bits):
    """The base of what numbers make, as words, rising."""
    return tuple(sorted([word_of(mask, bits) for mask in reduced(grown([], masks))]))


def shared(ones, others):
    """Rows of what both these lots of numbers make."""
    width = max([0, *ones]).bit_length()
    doubled = [(mask << width) | mask for mask in ones] + [mask << width for mask in others]
    # A row without an upper half is of ones and others that come to the same; the lower half is what these ones are.
    return [row for row in grown([], doubled) if row < (1 << width)]


def all_sums(rows):
    """All that the rows make, 0 too, each once."""
    sums = [0]
    for row in rows:
        sums = sums + [one ^ row for one in sums]
    return sums


def power_beyond(rank, most):
    """Whether two to the power of the rank is more than most."""
    # A number of n binary figures is below 2 ** n, and no less than 2 ** (n - 1): so no great power is worked out.
    return rank >= most.bit_length()


def book_masks(book):
    """Of a book the bits of its meetings, the rows of its board, and the numbers of each hand's purse."""
    hands, purses, board = book[1], book[3], book[4]
    bits = bits_of([*board, *[word for purse in purses for word in purse]])
    rows = grown([], masks_of(board, bits))
    return bits, rows, {hand: masks_of(purse, bits) for hand, purse in zip(hands, purses)}


def halves(board, purses, side):
    """The rows of what the hands of a side make with the board, and of what the others do."""
    ours = [mask for hand in purses if hand in side for mask in purses[hand]]
    theirs = [mask for hand in purses if hand not in side for mask in purses[hand]]
    return grown(board, ours), grown(board, theirs)
