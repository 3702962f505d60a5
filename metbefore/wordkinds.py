"""Kinds of any thing: names, meetings, signs, words, rows."""

# So many words a door asks for at once, at the most.
MOST_ASKED = 4


def is_number(thing):
    """Whether it is an int from 0 on; a truth is none."""
    return isinstance(thing, int) and not isinstance(thing, bool) and thing >= 0


def is_tuple_of(thing, is_part):
    """Whether it is a tuple, perhaps (), of things of which each is such a part."""
    return isinstance(thing, tuple) and all([is_part(part) for part in thing])


def is_pair_of(thing, is_one, is_other):
    """Whether it is a pair of such a thing and such another one."""
    return isinstance(thing, tuple) and len(thing) == 2 and is_one(thing[0]) and is_other(thing[1])


def rises(things):
    """Whether each of these things, which can be compared, is above the one ahead."""
    return all([one < other for one, other in zip(things, things[1:])])


def is_name(thing):
    """Whether it is a text of one to eight small letters."""
    return isinstance(thing, str) and 1 <= len(thing) <= 8 and all(["a" <= sign <= "z" for sign in thing])


def is_meeting(thing):
    """Whether it is a number."""
    return is_number(thing)


def is_sign(thing):
    """Whether it is the number 0 or 1."""
    return is_number(thing) and thing <= 1


def is_word(thing):
    """Whether it is a rising tuple of meetings, perhaps the void one."""
    return is_tuple_of(thing, is_meeting) and rises(thing)


def are_words(thing):
    """Whether it is a rising tuple of words, the void one let."""
    return is_tuple_of(thing, is_word) and rises(thing)


def is_row(thing):
    """Whether it is a tuple of unlike words, none void, in any order."""
    return is_tuple_of(thing, is_word) and () not in thing and len(set(thing)) == len(thing)


def is_asked(thing):
    """Whether it is a row of as many words as can be asked at once: one at least."""
    return is_row(thing) and 1 <= len(thing) <= MOST_ASKED


def are_signs(thing):
    """Whether it is a tuple of signs."""
    return is_tuple_of(thing, is_sign)
