"""A world: a history with the signs of its meetings, and the log of all that was done in it."""

from metbefore.asktries import tries_in
from metbefore.bases import makes
from metbefore.bookdeeds import done
from metbefore.bookkinds import first_book
from metbefore.errors import NoDeed, NoStep
from metbefore.reaches import purse_of, words_of
from metbefore.rowdeeds import asks_of, deeds_of
from metbefore.wordsums import sign_of, sum_of
from metbefore.worldtexts import log_lines


class World:
    """Hands that meet, in purses with room for so many words."""

    def __init__(self, hands, *, room=4):
        self._first = ("world", room, hands)
        self._rows = []
        self._books = [first_book(room, hands)]
        self._signs = []
        self._walks = 0

    def meet_now(self, hands, sign):
        """The hands meet, and this sign falls; told is the meeting's number."""
        self._go(("meet", hands, sign))
        return len(self._signs) - 1

    def fold_now(self, hand, one, other):
        """The hand folds two words of its purse to their sum, which is told."""
        self._go(("fold", hand, one, other))
        return sum_of((one, other))

    def drop_now(self, hand, word):
        """The hand drops a word of its purse."""
        self._go(("drop", hand, word))

    def say_now(self, hand, word):
        """The hand says a word, whose sign is told."""
        self._go(("say", hand, word))
        return sign_of(word, self._signs)

    def ask_now(self, door, guest, row, answers, *, shown=()):
        """The door shows words and asks; told is whether these answers are right."""
        self._go(("ask", door, guest, shown, row, answers))
        return self._are_right(row, answers)

    def greet_now(self, one, other, row, answers, *, back, backs):
        """The one asks as the door, then the other; told is of each whether its answers are right."""
        self._go(("greet", one, other, row, answers, back, backs))
        return self._are_right(row, answers), self._are_right(back, backs)

    def history_now(self):
        """The history without signs."""
        _, room, hands = self._first
        return room, hands, tuple([deed for row in self._rows for deed in deeds_of(row)])

    def book_now(self):
        """The last book."""
        return self._books[-1]

    def signs_now(self):
        """The signs of the meetings."""
        return tuple(self._signs)

    def seen_by(self, hand):
        """The words of the hand's purse and those of the board, each with its sign; NoHand where there is no such."""
        book = self.book_now()
        return self._with_signs(purse_of(book, hand)), self._with_signs(book[4])

    def sign_for(self, hand, word):
        """The sign of a word, None where the hand can't make it; NoHand where there is no such."""
        if not makes(words_of(self.book_now(), (hand,)), word):
            return None
        return sign_of(word, self._signs)

    def visits(self):
        """Of each "ask" the door, the guest, the row, and whether the answers were right."""
        asks = [ask for row in self._rows for ask in asks_of(row)]
        return tuple([(door, guest, row, self._are_right(row, answers)) for door, guest, row, answers in asks])

    def visit_strengths(self, lot):
        """Of each visit the strength against those of the lot who were false by then; None where door or guest was."""
        return tuple([strength for _, strength in tries_in(self._books, self.history_now()[2], lot)])

    def as_if(self, signs):
        """A new world in which these signs fell."""
        _, room, hands = self._first
        other = World(hands, room=room)
        other._rows = _rows_as_if(self._rows, signs)
        # Which deeds can be done, and what they lead to, hangs on no sign.
        other._books = list(self._books)
        other._signs = list(signs)
        return other

    def log(self):
        """("world", room, hands), then all rows."""
        return (self._first, *self._rows)

    def undo(self):
        """The last row, which is told, is as if it had never been; NoStep where there is none."""
        if not self._rows:
            raise NoStep(0)
        row = self._rows.pop()
        del self._books[-len(deeds_of(row)):]
        if row[0] == "meet":
            self._signs.pop()
        return row

    def do_all(self, rows, *, keep=False):
        """The rows, one by one; told is how many. Where one is refused those ahead stay only if keep is True."""
        before = len(self._rows)
        self._walks += 1
        try:
            for row in rows:
                self._go(row)
        except NoDeed:
            if not keep:
                self._undo_to(before)
            raise
        finally:
            self._walks -= 1
        return len(rows)

    def walks(self):
        """How many goings of do_all go on: none, behind each of them."""
        return self._walks

    def __len__(self):
        return len(self._rows)

    def __str__(self):
        return " / ".join(log_lines(self.log()))

    def __eq__(self, other):
        return isinstance(other, World) and self._first == other._first and self._rows == other._rows

    def __ne__(self, other):
        return not self == other

    def _go(self, row):
        """The deeds of the row are done, or none of them, with NoDeed of the one that is barred."""
        books = [self.book_now()]
        for deed in deeds_of(row):
            books.append(done(books[-1], deed))
        self._books.extend(books[1:])
        self._rows.append(row)
        if row[0] == "meet":
            self._signs.append(row[2])

    def _undo_to(self, many):
        """Only so many rows are left."""
        while len(self._rows) > many:
            self.undo()

    def _are_right(self, row, answers):
        """Whether the answers are the signs of the row's words."""
        return answers == tuple([sign_of(word, self._signs) for word in row])

    def _with_signs(self, words):
        """Pairs of each word and its sign."""
        return tuple([(word, sign_of(word, self._signs)) for word in words])


def _rows_as_if(rows, signs):
    """The rows, those of the meetings with these signs."""
    told = []
    met = 0
    for row in rows:
        if row[0] == "meet":
            told.append(("meet", row[1], signs[met]))
            met += 1
        else:
            told.append(row)
    return told
