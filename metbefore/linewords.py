"""What the words of a line write; None is told of a text that writes nothing of a kind."""

from metbefore.wordkinds import is_asked, is_name, is_row, rises

# So many figures a number has at most, where it is read.
MOST_FIGURES = 60


def number_in(text):
    """The number of figures without a 0 ahead."""
    if not 1 <= len(text) <= MOST_FIGURES or not all(["0" <= figure <= "9" for figure in text]):
        return None
    return None if len(text) > 1 and text[0] == "0" else int(text)


def word_in(text):
    """The word, perhaps the void one."""
    if text == ".":
        return ()
    meetings = [number_in(part) for part in text.split("+")]
    return tuple(meetings) if None not in meetings and rises(meetings) else None


def parts_in(text):
    """Of each part between commas the word, or None; of - there are none."""
    return [] if text == "-" else [word_in(part) for part in text.split(",")]


def name_in(text):
    """The name."""
    return text if is_name(text) else None


def hands_in(text):
    """One name or more, rising."""
    names = text.split(",")
    return tuple(names) if all([is_name(name) for name in names]) and rises(names) else None


def everyone_in(text):
    """Two names or more, rising."""
    names = hands_in(text)
    return names if names is not None and len(names) > 1 else None


def room_in(text):
    """A number from 1 on."""
    return number_in(text) or None


def sign_in(text):
    """The sign."""
    return int(text) if text in ("0", "1") else None


def said_in(text):
    """A word that isn't void."""
    return word_in(text) or None


def shown_in(text):
    """A row of however many words."""
    parts = tuple(parts_in(text))
    return parts if is_row(parts) else None


def row_in(text):
    """A row of one to four words."""
    row = shown_in(text)
    return row if is_asked(row) else None


def lot_in(text):
    """Pairs of a hand and its since, rising, no hand twice; of - there are none."""
    if text == "-":
        return ()
    pairs = []
    for part in text.split(","):
        hand, _, since = part.partition(":")
        pairs.append((hand, number_in(since)))
    right = all([is_name(hand) and since is not None for hand, since in pairs])
    return tuple(pairs) if right and rises([hand for hand, _ in pairs]) else None


READERS = {
    "name": name_in,
    "hands": hands_in,
    "everyone": everyone_in,
    "room": room_in,
    "sign": sign_in,
    "word": word_in,
    "said": said_in,
    "shown": shown_in,
    "row": row_in,
    "lot": lot_in,
}


def line_in(line, forms):
    """The tuple that a line writes by one of the forms, and None; else None, and the place of what can't stand."""
    words = line.split(" ")
    for form in forms:
        if form[0] == words[0]:
            things, place = things_in(words[1:], form[1:])
            return (None, place + 1) if things is None else ((words[0], *things), None)
    return None, 0


def things_in(words, kinds):
    """The things that words write, one of each kind, and None; else None, and where one can't stand, or lacks."""
    things = []
    for word, kind in zip(words, kinds):
        thing = _thing_in(word, kind, things)
        if thing is None:
            return None, len(things)
        things.append(thing)
    return (None, len(things)) if len(words) != len(kinds) else (tuple(things), None)


def _thing_in(text, kind, ahead):
    """The thing of a kind, behind those ahead."""
    if kind == "signs":
        signs = [sign_in(sign) for sign in text]
        return tuple(signs) if None not in signs and len(signs) == len(ahead[-1]) else None
    if kind == "other":
        return None if said_in(text) == ahead[-1] else said_in(text)
    read = READERS[kind]
    return read(text)
