"""Rows of signs that agree with told ones, and what these answer."""

from metbefore.bounds import MOST
from metbefore.errors import NoMore
from metbefore.lacks import need_meetings
from metbefore.masks import all_sums, bits_of, grown, mask_of, power_beyond, reduced, word_of
from metbefore.turns import turn_at


def sign_rows(many, told, *, most=MOST):
    """All rows of many signs in which each told word has its sign, rising; NoMeeting, NoMore where due."""
    need_meetings([word for word, _ in told], many)
    base = _base_of_told(told)
    if base is None:
        return ()
    if power_beyond(many - len(base), most):
        raise NoMore(most)
    return _rows_by(many, base)


def answers_of(many, told, row, *, most=MOST):
    """The answers to the row that come in these, each with how often; refused likewise."""
    need_meetings([*[word for word, _ in told], *row], many)
    # Each answer is taken as the sign of a meeting more, which its word has too: so the sum of both has sign 0.
    base = _base_of_told([*told, *[((*word, many + k), 0) for k, word in enumerate(row)]])
    if base is None:
        return ()
    free = many + len(row) - len(base)
    if power_beyond(free, most):
        raise NoMore(most)
    among = [(tuple([meeting - many for meeting in word]), sign) for word, sign in base if word[0] >= many]
    often = 1 << (free - len(row) + len(among))
    return tuple([(answers, often) for answers in _rows_by(len(row), among)])


def _base_of_told(told):
    """The base of the told words, each with its sign; None where they can't all have theirs."""
    bits = bits_of([word for word, _ in told])
    rows = reduced(grown([], [(mask_of(word, bits) << 1) | sign for word, sign in told]))
    # This row is the void word with sign 1.
    if 1 in rows:
        return None
    return [(word_of(row >> 1, bits), row & 1) for row in rows]


def _rows_by(many, base):
    """All rows of many signs, rising, in which each word of the base has the sign that stands with it."""
    bits = {meeting: 1 << (many - 1 - meeting) for meeting in range(many)}
    firsts = {word[0]: True for word, _ in base}
    one = mask_of([word[0] for word, sign in base if sign], bits)
    words = [word for word, _ in base]
    turns = [mask_of(turn_at(words, meeting), bits) for meeting in range(many) if meeting not in firsts]
    rows = sorted([one ^ mask for mask in all_sums(turns)])
    return tuple([tuple([1 if row & bits[meeting] else 0 for meeting in range(many)]) for row in rows])
