"""The least of words that differ by what others make."""

from metbefore.masks import all_sums, grown, rest_in, word_of


def least_beyond(rows, masks, bits):
    """Of all that the numbers make and the rows don't, those that are least, as words, of all that differ by the rows.

    Told are pairs (word, number), rising.
    """
    beyond = grown(rows, masks)[len(rows):]
    told = [least_apart(rows, mask, bits) for mask in all_sums(beyond) if mask]
    return sorted([(word_of(mask, bits), mask) for mask in told])


def least_apart(rows, mask, bits):
    """The number, which the rows don't make, with that of their sums which makes the least word."""
    left = sorted(rows, reverse=True)
    for bit in bits.values():
        # A word is less than each that goes on behind it: so it ends where what is left can be taken out.
        low = mask & (2 * bit - 1)
        if not rest_in(left, low):
            return mask ^ low
        # Else it is less by each meeting that it can have.
        if left and left[0] & bit:
            mask = mask if mask & bit else mask ^ left[0]
            left = left[1:]
    return mask
