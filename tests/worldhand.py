"""A world gone through by hand: its purses, its board, its signs; rows drawn for it."""

from metbefore.errors import NoDeed
from metbefore.worlds import World
from tests import byhand


def deeds_of(row):
    """The deeds of a row, without signs."""
    if row[0] == "greet":
        _, one, other, asked, _, back, _ = row
        return [("ask", one, other, (), asked), ("ask", other, one, (), back)]
    return [row[:-1] if row[0] in ("meet", "ask") else row]


class Hand:
    """What a world should be, by what was done in it."""

    def __init__(self, hands, room=4):
        self.hands, self.room = hands, room
        self.rows, self.deeds, self.signs, self.visits = [], [], [], []
        self.books = [(room, hands, (), ((),) * len(hands), ())]

    def sign(self, word):
        return sum(self.signs[meeting] for meeting in word) % 2

    def right(self, row, answers):
        return [self.sign(word) for word in row] == list(answers)

    def go(self, row):
        """What the row tells, or the refusal, with all that changes by it."""
        books = self.books[-1:]
        for deed in deeds_of(row):
            why = byhand.barred(books[-1], deed)
            if why:
                return "NoDeed", deed, why
            books.append(byhand.behind(books[-1], deed))
        self.books += books[1:]
        self.deeds += deeds_of(row)
        self.rows.append(row)
        return self.told(row)

    def told(self, row):
        kind = row[0]
        if kind == "meet":
            self.signs.append(row[2])
            return len(self.signs) - 1
        if kind == "fold":
            return byhand.word(byhand.number(row[2]) ^ byhand.number(row[3]))
        if kind in ("drop", "say"):
            return None if kind == "drop" else self.sign(row[2])
        if kind == "ask":
            _, door, guest, _, asked, answers = row
            self.visits.append((door, guest, asked, self.right(asked, answers)))
            return self.visits[-1][3]
        _, one, other, asked, answers, back, backs = row
        self.visits.append((one, other, asked, self.right(asked, answers)))
        self.visits.append((other, one, back, self.right(back, backs)))
        return self.visits[-2][3], self.visits[-1][3]

    def log(self):
        return (("world", self.room, self.hands), *self.rows)

    def history(self):
        return self.room, self.hands, tuple(self.deeds)

    def seen(self, hand):
        book = self.books[-1]
        return tuple(
            tuple((word, self.sign(word)) for word in words) for words in (byhand.purse_of(book, hand), book[4])
        )

    def sign_for(self, hand, word):
        made = byhand.made_by(self.books[-1], (hand,))
        there = all(meeting < len(self.signs) for meeting in word)
        return self.sign(word) if there and byhand.number(word) in made else None

    def strengths(self, lot):
        told = []
        for k, deed in enumerate(self.deeds):
            if deed[0] == "ask":
                false = [pair for pair in lot if pair[1] <= k]
                if {hand for hand, _ in false} & {*deed[1:3]}:
                    told.append(None)
                else:
                    known = (*byhand.had(self.books[:k + 1], false), *self.books[k][4], *deed[3])
                    told.append(byhand.beyond(deed[4], known))
        return tuple(told)


def do(world, row):
    """What a world tells of a row, done by the method that is there for it; or its refusal."""
    kind, *things = row
    try:
        if kind == "ask":
            door, guest, shown, asked, answers = things
            return world.ask_now(door, guest, asked, answers, shown=shown)
        if kind == "greet":
            *ahead, back, backs = things
            return world.greet_now(*ahead, back=back, backs=backs)
        return getattr(world, kind + "_now")(*things)
    except NoDeed as caught:
        return "NoDeed", caught.deed, caught.why


def looks(world, lots=((),)):
    """All that a world tells of itself."""
    told = [len(world), str(world), world.log(), world.history_now(), world.book_now(), world.signs_now()]
    told += [world.visits(), world.walks(), *[world.visit_strengths(lot) for lot in lots]]
    for hand in world.history_now()[1]:
        told.append(world.seen_by(hand))
        told += [world.sign_for(hand, byhand.word(bits)) for bits in range(1 << min(4, 1 + len(world.signs_now())))]
    return told


def draw_row(rng, hand, most=6):
    """A row for a world by hand: mostly one that can be done, its answers mostly right."""
    book = hand.books[-1]
    kind = rng.choice(("meet", "meet", "meet", "fold", "drop", "say", "ask", "ask", "greet"))
    if rng.random() < 0.12 or (kind == "meet" and len(hand.signs) >= most):
        return draw_strange(rng, hand)
    deed = byhand.draw_deed(rng, book, "ask" if kind == "greet" else kind)
    if deed is None:
        return draw_strange(rng, hand) if rng.random() < 0.3 else None
    if kind == "meet":
        return (*deed, rng.randrange(2))
    if kind == "ask":
        return (*deed, answers(rng, hand, deed[4]))
    if kind == "greet":
        _, one, other, _, asked = deed
        both = byhand.made_by(book, (one,)) & byhand.made_by(book, (other,))
        back = byhand.draw_some(rng, both, 1, 3)
        return "greet", one, other, asked, answers(rng, hand, asked), back, answers(rng, hand, back)
    return deed


def answers(rng, hand, row):
    """Answers: the right ones, or any."""
    known = all(meeting < len(hand.signs) for word in row for meeting in word)
    if known and rng.random() < 0.6:
        return tuple(hand.sign(word) for word in row)
    return tuple(rng.randrange(2) for _ in row)


def draw_strange(rng, hand):
    """Any row by kind, with hands and words that may not be there."""
    names = (*hand.hands, *hand.hands, "zed")
    one, other = rng.choice(names), rng.choice(names)
    many = len(hand.signs) + 2

    def words(least, most):
        return tuple(byhand.word(bits) for bits in rng.sample(range(1, 1 << many), min(3, rng.randint(least, most))))

    asked, back, pair = words(1, 3), words(1, 3), words(2, 2)
    return rng.choice((
        ("meet", tuple(sorted({one, other})), rng.randrange(2)), ("fold", one, *pair), ("drop", one, pair[0]),
        ("say", one, rng.choice((pair[0], *hand.books[-1][4]))),
        ("ask", one, other, words(0, 2), asked, answers(rng, hand, asked)),
        ("greet", one, other, asked, answers(rng, hand, asked), back, answers(rng, hand, back)),
    ))


def draw_world(rng, most=12, meetings=6, most_hands=4, strange=False):
    """A world and one by hand, in which the same was done; rows that are refused only where strange ones are let."""
    hands = byhand.NAMES[:rng.randint(2, most_hands)]
    room = rng.choice((1, 2, 3, 4, 4, 4))
    world, hand = World(hands, room=room), Hand(hands, room)
    for _ in range(rng.choice((most, rng.randint(0, most)))):
        row = draw_row(rng, hand, meetings)
        if row and (strange or not any_barred(hand, row)):
            hand.go(row)
            do(world, row)
    return world, hand


def any_barred(hand, row):
    """Whether the row would be refused."""
    book = hand.books[-1]
    for deed in deeds_of(row):
        if byhand.barred(book, deed):
            return True
        book = byhand.behind(book, deed)
    return False
