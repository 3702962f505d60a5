"""Turns: words with an even number of meetings in common with each of some words, and an odd one with one more."""


def turn_at(base, meeting):
    """The turn of a base by a meeting that is the first one of none of its words.

    It has an odd number in common with each word that has this meeting and no first one of the base.
    """
    return tuple(sorted([meeting, *[word[0] for word in base if meeting in word]]))


def has_odd(turn, word):
    """Whether an odd number of the word's meetings are in the turn."""
    inside = {meeting: True for meeting in turn}
    return len([meeting for meeting in word if meeting in inside]) & 1 == 1


def is_turn(words, word, turn):
    """Whether it has an even number in common with each of the words, and an odd one with that one more."""
    return has_odd(turn, word) and not any([has_odd(turn, one) for one in words])
