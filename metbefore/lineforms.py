"""The forms of lines, each its word and the kinds of the things behind it, and how these are written."""

from metbefore.wordtexts import word_text, words_text

# What stands in the first line of a history, of a log behind its word.
BEGINNING = ("room", "everyone")
WORLD_FORMS = (
    ("world", "room", "everyone"),
)
DEED_FORMS = (
    ("meet", "hands"),
    ("fold", "name", "said", "other"),
    ("drop", "name", "said"),
    ("say", "name", "said"),
    ("ask", "name", "name", "shown", "row"),
)
ROW_FORMS = (
    ("meet", "hands", "sign"),
    ("fold", "name", "said", "other"),
    ("drop", "name", "said"),
    ("say", "name", "said"),
    ("ask", "name", "name", "shown", "row", "signs"),
    ("greet", "name", "name", "row", "signs", "row", "signs"),
)


def line_of(things, forms):
    """The line of a tuple that begins with the word of one of the forms."""
    kinds = [form[1:] for form in forms if form[0] == things[0]][0]
    return " ".join([things[0], *texts_of(things[1:], kinds)])


def texts_of(things, kinds):
    """The texts of things, one of each kind."""
    return [_text_of(thing, kind) for thing, kind in zip(things, kinds)]


def _text_of(thing, kind):
    """How a thing of a kind is written."""
    if kind in ("hands", "everyone"):
        return ",".join(thing)
    if kind in ("said", "other"):
        return word_text(thing)
    if kind in ("shown", "row"):
        return words_text(thing)
    if kind == "signs":
        return "".join([str(sign) for sign in thing])
    return str(thing)
