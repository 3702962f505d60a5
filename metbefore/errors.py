"""The refusals: each keeps the things that it was made of, and looks at them in no way."""


class MetError(ValueError):
    """The base of what is refused for what it is; never raised itself."""


class LackError(LookupError):
    """The base of what is refused because something isn't there; never raised itself."""


class NoPaper(MetError):
    """A checker doesn't let a thing by."""

    def __init__(self, word, at):
        self.word = word
        self.at = at


class NoDeed(MetError):
    """A deed is barred."""

    def __init__(self, deed, why):
        self.deed = deed
        self.why = why


class NoSuch(MetError):
    """Thing number k of a history can't stand there."""

    def __init__(self, k, why):
        self.k = k
        self.why = why


class NoText(MetError):
    """A text writes nothing of what is read."""

    def __init__(self, line, place):
        self.line = line
        self.place = place


class NoMore(MetError):
    """There are more than most."""

    def __init__(self, most):
        self.most = most


class NoLine(MetError):
    """A desk has no such row."""

    def __init__(self, row):
        self.row = row


class NoHand(LackError):
    """There is no hand of this name."""

    def __init__(self, name):
        self.name = name


class NoStep(LackError):
    """There is no such step."""

    def __init__(self, number):
        self.number = number


class NoMeeting(LackError):
    """There is no such meeting, or no sign of it."""

    def __init__(self, number):
        self.number = number
