import random
import unittest

from metbefore.bookchecker import lets_book
from metbefore.bookkinds import first_book
from metbefore.errors import NoPaper
from tests import byhand
from tests.byhand import asked, refused

SIXTY = 10 ** 59
HANDS = ("al", "bo")
MET = (HANDS, ("al",))


def book(room=2, hands=HANDS, meetings=MET, purses=(((0,), (0, 1)), ()), board=((0,), (1,))):
    return room, hands, meetings, purses, board


def by_hand(thing):
    """What is told of a thing that has a book's form."""
    room, hands, meetings, purses, board = thing
    if room == 0:
        return "NoPaper", "room", -1
    if len(hands) < 2 or list(hands) != sorted(set(hands)):
        return "NoPaper", "hands", -1
    for m, there in enumerate(meetings):
        if not there or list(there) != sorted(set(there)) or not set(there) <= set(hands):
            return "NoPaper", "meeting", m
    if len(purses) != len(hands):
        return "NoPaper", "purses", -1
    for h, purse in enumerate(purses):
        if len(purse) > room:
            return "NoPaper", "purse", h
        for k, word in enumerate(purse):
            if wrong(purse, k, len(meetings)):
                return "NoPaper", "word", (h, k)
    for k, word in enumerate(board):
        if wrong(board, k, len(meetings)):
            return "NoPaper", "board", k
    return True


def wrong(words, k, many):
    word = words[k]
    return word == () or list(word) != sorted(set(word)) or max(word) >= many or (k > 0 and word <= words[k - 1])


def is_formed(thing):
    """Whether it has a book's form, each part by itself."""
    if type(thing) is not tuple or len(thing) != 5 or not byhand.plain(thing):
        return False
    return (
        form(thing[0]) == "n" and form(thing[1]) in ("()", "(h)") and form(thing[2]) in ("()", "(())", "((h))")
        and form(thing[3]) in ("()", "(())", "((()))", "(((n)))") and form(thing[4]) in ("()", "(())", "((n))")
    )


def form(thing):
    """How a thing is made, where its parts are made alike or perhaps void; ? where not."""
    if type(thing) is int:
        return "n" if thing >= 0 else "?"
    if type(thing) is str:
        return "h" if 1 <= len(thing) <= 8 and set(thing) <= set("abcdefghijklmnopqrstuvwxyz") else "?"
    forms = sorted({form(part) for part in thing}, key=len)
    if not forms:
        return "()"
    longest = forms[-1]
    bare = longest.replace("n", "").replace("h", "")
    for one in forms:
        if one != longest and not ("n" not in one and "h" not in one and one in bare):
            return "?"
    return "?" if "?" in longest else "(" + longest + ")"


class LetsBook(unittest.TestCase):
    def test_books(self):
        for thing in (
            book(), book(meetings=(), purses=((), ()), board=()), book(room=SIXTY), first_book(1, ("al", "bo", "cy")),
            book(board=((0,), (0, 1), (1,))), book(purses=(((1,),), ((0,), (1,)))),
        ):
            self.assertIs(asked(lets_book, thing), True, thing)
        self.assertIs(lets_book(thing=book()), True)

    def test_drawn_books(self):
        for thing, _, _ in byhand.drawn(111, 100):
            self.assertIs(asked(lets_book, thing), True, thing)

    def test_beyond_the_bounds(self):
        many = tuple("h" + letter for letter in "abcdefghijklm")
        board = tuple((k,) for k in range(30))
        self.assertIs(lets_book((9, many, (many,) * 30, (((0,), (29,)),) + ((),) * 12, board)), True)

    def shape(self, *things):
        for thing in things:
            self.assertEqual(refused(lets_book, thing), ("NoPaper", "shape", -1), thing)

    def test_shape(self):
        self.shape(None, 0, True, "book", "", (), [], list(book()), book()[:4], (*book(), ()))
        self.shape(book(room=-1), book(room=True), book(room=False), book(room=None), book(room="2"), book(room=(2,)))
        self.shape(book(hands=list(HANDS)), book(hands=("al", "Bo")), book(hands=("al", 0)), book(hands="al"))
        self.shape(book(hands=("al", "abcdefghi")), book(hands=("al", "")), book(hands=(HANDS,)), book(hands=None))
        self.shape(book(meetings=[HANDS]), book(meetings=(["al"],)), book(meetings=("al",)), book(meetings=HANDS))
        self.shape(book(meetings=(("al", None),)), book(meetings=(("al", "B"),)), book(meetings=((("al",),),)))
        self.shape(book(purses=[(), ()]), book(purses=([], ())), book(purses=(([0],), ())), book(purses=((0,), ())))
        self.shape(book(purses=(((True,),), ())), book(purses=(((-1,),), ())), book(purses=((("0",),), ())))
        self.shape(book(purses=((((0,),),), ())), book(purses=None), book(purses=(((0,), None), ())))
        self.shape(book(board=[]), book(board=[(0,)]), book(board=([0],)), book(board=(0,)), book(board=((False,),)))
        self.shape(book(board=((-1,),)), book(board=(((0,),),)), book(board=None), book(board=((0,), "1")))

    def test_room(self):
        self.assertEqual(refused(lets_book, book(room=0)), ("NoPaper", "room", -1))
        self.assertEqual(refused(lets_book, book(room=0, hands=())), ("NoPaper", "room", -1))

    def test_hands(self):
        for hands in ((), ("al",), ("al", "al"), ("bo", "al"), ("al", "cy", "bo"), ("al", "bo", "bo")):
            self.assertEqual(refused(lets_book, book(hands=hands)), ("NoPaper", "hands", -1))
        self.assertEqual(refused(lets_book, book(hands=("al",), meetings=((),))), ("NoPaper", "hands", -1))

    def test_meeting(self):
        for there in ((), ("bo", "al"), ("al", "al"), ("cy",), ("al", "bo", "cy")):
            self.assertEqual(refused(lets_book, book(meetings=(HANDS, there))), ("NoPaper", "meeting", 1))
            told = refused(lets_book, book(meetings=(there, (), HANDS), purses=()))
            self.assertEqual(told, ("NoPaper", "meeting", 0))

    def test_purses(self):
        for purses in ((), ((),), ((), (), ()), (((0,), (1,), (0, 1)),)):
            self.assertEqual(refused(lets_book, book(purses=purses)), ("NoPaper", "purses", -1))

    def test_purse(self):
        three = ((0,), (0, 1), (1,))
        self.assertEqual(refused(lets_book, book(purses=(three, ()))), ("NoPaper", "purse", 0))
        self.assertEqual(refused(lets_book, book(purses=((), three))), ("NoPaper", "purse", 1))
        self.assertEqual(refused(lets_book, book(room=1, purses=((), ((), (9,))))), ("NoPaper", "purse", 1))
        self.assertEqual(refused(lets_book, book(purses=(((),), three))), ("NoPaper", "word", (0, 0)))
        self.assertEqual(refused(lets_book, book(room=3, purses=(three, ()))), True)

    def test_word(self):
        for purse, k in (
            (((),), 0), (((1, 0),), 0), (((0, 0),), 0), (((2,),), 0), (((0,), (0,)), 1), (((1,), (0,)), 1),
            (((0, 1), (0,)), 1), (((0,), ()), 1), (((0,), (0, SIXTY)), 1), (((0,), (1, 5)), 1), (((1, 0), (0,)), 0),
        ):
            self.assertEqual(refused(lets_book, book(purses=((), purse))), ("NoPaper", "word", (1, k)), purse)
            self.assertEqual(refused(lets_book, book(purses=(purse, purse))), ("NoPaper", "word", (0, k)), purse)
            told = refused(lets_book, book(purses=((), purse), board=((),)))
            self.assertEqual(told, ("NoPaper", "word", (1, k)))

    def test_board(self):
        for board, k in (
            (((),), 0), (((1, 0),), 0), (((0, 0),), 0), (((2,),), 0), (((0,), (0,)), 1), (((1,), (0,)), 1),
            (((0,), (1,), (1,)), 2), (((0, 1), (0,)), 1), (((0,), ()), 1), (((0,), (1, SIXTY)), 1),
        ):
            self.assertEqual(refused(lets_book, book(board=board)), ("NoPaper", "board", k), board)

    def test_no_meetings(self):
        self.assertEqual(refused(lets_book, book(meetings=())), ("NoPaper", "word", (0, 0)))
        self.assertEqual(refused(lets_book, book(meetings=(), purses=((), ()))), ("NoPaper", "board", 0))

    def test_drawn_spoilt(self):
        rng = random.Random(112)
        seen = {}
        for thing, _, _ in byhand.drawn(113, 2500, most_hands=4, most_meetings=6):
            for _ in range(rng.choice((1, 1, 2))):
                thing = byhand.spoilt(rng, thing)
            told = refused(lets_book, thing)
            self.assertEqual(told, by_hand(thing) if is_formed(thing) else ("NoPaper", "shape", -1), thing)
            seen[told if told is True else told[1]] = True
        self.assertEqual(
            sorted(map(str, seen)), ["True", "board", "hands", "meeting", "purse", "purses", "shape", "word"]
        )

    def test_drawn_any_thing(self):
        rng = random.Random(114)
        for _ in range(800):
            self.assertEqual(refused(lets_book, byhand.draw_thing(rng)), ("NoPaper", "shape", -1))

    def test_refused_by_the_class(self):
        with self.assertRaises(NoPaper):
            lets_book(None)
