"""Lines read by hand: which word of one can't stand, and what it writes."""

import re

NUMBER = r"(0|[1-9][0-9]{0,59})"
NAME = r"[a-z]{1,8}"
WORD = rf"(\.|{NUMBER}(\+{NUMBER})*)"
ROW = rf"(-|{WORD}(,{WORD})*)"
SIGNS = " +,.-0123456789abz:/\nA~"

# Of each form what stands behind its word: names, hands, words and so on.
DEEDS = {"meet": "H", "fold": "NWO", "drop": "NW", "say": "NW", "ask": "NNSR"}
ROWS = {"meet": "HB", "fold": "NWO", "drop": "NW", "say": "NW", "ask": "NNSRA", "greet": "NNRARA"}
WORLD = {"world": "ME"}
DESK = {
    "undo": "", "count": "", "log": "", "purse": "N", "board": "", "sign": "NV", "visits": "", "strengths": "L",
    **ROWS, **WORLD,
}


def word(text):
    return () if text == "." else tuple(int(part) for part in text.split("+"))


def row(text):
    return () if text == "-" else tuple(word(part) for part in text.split(","))


def lot(text):
    pairs = [] if text == "-" else [part.split(":") for part in text.split(",")]
    return tuple((name, int(since)) for name, since in pairs)


def rising(things):
    return list(things) == sorted(set(things))


def thing(text, kind, ahead):
    """What a word of a line writes, of a kind; None where it can't stand."""
    if kind == "N":
        return text if re.fullmatch(NAME, text) else None
    if kind in "HE":
        names = tuple(text.split(","))
        right = all(re.fullmatch(NAME, name) for name in names) and rising(names)
        return names if right and len(names) > (kind == "E") else None
    if kind in "WOV":
        told = word(text) if re.fullmatch(WORD, text) else None
        right = told is not None and rising(told) and (told or kind == "V") and not (kind == "O" and told == ahead[-1])
        return told if right else None
    if kind in "SR":
        told = row(text) if re.fullmatch(ROW, text) else None
        right = told is not None and all(one and rising(one) for one in told) and len({*told}) == len(told)
        return told if right and (kind == "S" or 1 <= len(told) <= 4) else None
    if kind == "M":
        return int(text) if re.fullmatch(NUMBER, text) and text != "0" else None
    if kind == "B":
        return int(text) if text in {"0", "1"} else None
    if kind == "A":
        return tuple(map(int, text)) if re.fullmatch("[01]+", text) and len(text) == len(ahead[-1]) else None
    right = re.fullmatch(rf"-|{NAME}:{NUMBER}(,{NAME}:{NUMBER})*", text)
    return lot(text) if right and rising([name for name, _ in lot(text)]) else None


def things(words, kinds):
    """What words write, of these kinds; or the place of the first that can't stand, or lacks."""
    told = []
    for place, text in enumerate(words):
        told.append(thing(text, kinds[place], told) if place < len(kinds) else None)
        if told[-1] is None:
            return place
    return tuple(told) if len(told) == len(kinds) else len(told)


def line(text, forms):
    """What a line writes, by one of the forms; or the place of the first word that can't stand, or lacks."""
    first, *words = text.split(" ")
    if first not in forms:
        return 0
    told = things(words, forms[first])
    return told + 1 if isinstance(told, int) else (first, *told)


def otherwise(rng, text, signs=SIGNS):
    """The text with one sign otherwise, more or less; now and then with a word of it elsewhere, or gone."""
    way = rng.randrange(5)
    if way < 3:
        at = rng.randint(0, len(text))
        return text[:at] + (rng.choice(signs) if way else "") + text[at + (way != 1):]
    words = text.split(" ")
    if way == 3:
        rng.shuffle(words)
    else:
        words.pop(rng.randrange(len(words)))
    return " ".join(words)


def every_other(text, signs=SIGNS):
    """All texts with just one sign of this one otherwise, less, or more."""
    for at in range(len(text) + 1):
        for sign in ("", *signs):
            yield text[:at] + sign + text[at + 1:]
            yield text[:at] + sign + text[at:]
