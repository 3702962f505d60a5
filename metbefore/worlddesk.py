"""A desk at which a world is told of by lines."""

from metbefore.errors import NoHand, NoLine
from metbefore.lineforms import ROW_FORMS, WORLD_FORMS
from metbefore.linewords import line_in
from metbefore.worlds import World
from metbefore.worldtexts import row_line
from metbefore.wordtexts import word_text

LOOK_FORMS = (
    ("undo",),
    ("count",),
    ("log",),
    ("purse", "name"),
    ("board",),
    ("sign", "name", "word"),
    ("visits",),
    ("strengths", "lot"),
)


class Desk:
    """It has a world, at first none."""

    def __init__(self):
        self._world = None

    def say(self, row):
        """What a line is answered; NoLine where it is none, or stands ahead of the first world."""
        told, _ = line_in(row, WORLD_FORMS + ROW_FORMS + LOOK_FORMS)
        if told is None or not self._can_stand(told):
            raise NoLine(row)
        if told[0] == "world":
            _, room, hands = told
            self._world = World(hands, room=room)
            return "ok"
        if told[0] in [form[0] for form in LOOK_FORMS]:
            return _looked(self._world, told)
        return _done(self._world, told)

    def _can_stand(self, told):
        """Whether what a line writes can stand here, whatever the world says to it."""
        if self._world is None:
            return told[0] == "world"
        many = len(self._world.history_now()[2])
        return told[0] != "strengths" or all([since <= many for _, since in told[1]])


def _done(world, row):
    """The row is done; what is told of it, as a text."""
    if row[0] == "meet":
        _, hands, sign = row
        return str(world.meet_now(hands, sign))
    if row[0] == "fold":
        _, hand, one, other = row
        return word_text(world.fold_now(hand, one, other))
    if row[0] == "drop":
        _, hand, word = row
        world.drop_now(hand, word)
        return "ok"
    if row[0] == "say":
        _, hand, word = row
        return str(world.say_now(hand, word))
    if row[0] == "ask":
        _, door, guest, shown, asked, answers = row
        return _truth_text(world.ask_now(door, guest, asked, answers, shown=shown))
    _, one, other, asked, answers, back, backs = row
    truths = world.greet_now(one, other, asked, answers, back=back, backs=backs)
    return " ".join([_truth_text(truth) for truth in truths])


def _looked(world, told):
    """What is asked, or undone, as a text."""
    if told[0] == "undo":
        return row_line(world.undo())
    if told[0] == "count":
        return str(len(world))
    if told[0] == "log":
        return str(world)
    if told[0] == "purse":
        return _signs_text(world.seen_by(told[1])[0])
    if told[0] == "board":
        hands = world.history_now()[1]
        return _signs_text(world.seen_by(hands[0])[1])
    if told[0] == "sign":
        return _number_text(world.sign_for(told[1], told[2]))
    if told[0] == "visits":
        visits = [" ".join([door, guest, _truth_text(truth)]) for door, guest, _, truth in world.visits()]
        return " / ".join(visits) or "-"
    return _strengths_text(world, told[1])


def _strengths_text(world, lot):
    """The strength of each visit against the lot; NoHand of its first hand that isn't there."""
    hands = world.history_now()[1]
    for hand, _ in lot:
        if hand not in hands:
            raise NoHand(hand)
    return " ".join([_number_text(strength) for strength in world.visit_strengths(lot)]) or "-"


def _signs_text(pairs):
    """Words, each with its sign."""
    return " ".join([word_text(word) + "=" + str(sign) for word, sign in pairs]) or "-"


def _truth_text(truth):
    """Whether it is so."""
    return "yes" if truth else "no"


def _number_text(number):
    """A number, or that there is none."""
    return "-" if number is None else str(number)
