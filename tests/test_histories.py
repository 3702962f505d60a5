import random
import unittest

from metbefore.bookchecker import lets_book
from metbefore.bookkinds import first_book, is_deed
from metbefore.errors import NoSuch
from metbefore.histories import books_of, is_history, last_book
from tests import byhand
from tests.byhand import asked, refused

AB = ("al", "bo")
FIRST = (2, AB, (), ((), ()), ())
MEET = ("meet", AB)
DEEDS = (
    MEET, ("meet", ("al",)), ("fold", "al", (0,), (1,)), ("drop", "bo", (0,)), ("say", "al", (0, 1)),
    ("ask", "al", "bo", (), ((0, 1),)),
)
BOOKS = (
    FIRST,
    (2, AB, (AB,), (((0,),), ((0,),)), ()),
    (2, AB, (AB, ("al",)), (((0,), (1,)), ((0,),)), ()),
    (2, AB, (AB, ("al",)), (((0, 1),), ((0,),)), ()),
    (2, AB, (AB, ("al",)), (((0, 1),), ()), ()),
    (2, AB, (AB, ("al",)), (((0, 1),), ()), ((0, 1),)),
    (2, AB, (AB, ("al",)), (((0, 1),), ()), ((0, 1),)),
)


def forty():
    """A history of forty deeds with seven hands."""
    hands = byhand.NAMES
    deeds = []
    for k in range(10):
        deeds.append(("meet", hands[:3 + k % 5]))
        deeds += [("drop", hand, (k,)) for hand in hands[1:3]]
        deeds.append(("fold", "al", (*range(k),), (k,)) if k else ("say", "al", (0,)))
        if k < 6:
            deeds += [("drop", hand, (k,)) for hand in hands[3:3 + k % 5]]
    return 4, hands, tuple(deeds)[:40]


class BooksOf(unittest.TestCase):
    def test_told(self):
        self.assertEqual(asked(books_of, (2, AB, DEEDS)), BOOKS)
        self.assertEqual(asked(last_book, (2, AB, DEEDS)), BOOKS[-1])
        self.assertEqual(books_of(history=(2, AB, DEEDS)), BOOKS)
        self.assertEqual(last_book(history=(2, AB, DEEDS)), BOOKS[-1])

    def test_without_deeds(self):
        self.assertEqual(asked(books_of, (2, AB, ())), (FIRST,))
        self.assertEqual(asked(last_book, (2, AB, ())), FIRST)
        self.assertEqual(asked(last_book, (1, byhand.NAMES, ())), first_book(1, byhand.NAMES))

    def test_forty_deeds(self):
        history = forty()
        self.assertEqual(len(history[2]), 40)
        books = asked(books_of, history)
        self.assertEqual(len(books), 41)
        own = [first_book(4, byhand.NAMES)]
        for deed in history[2]:
            self.assertIsNone(byhand.barred(own[-1], deed))
            own.append(byhand.behind(own[-1], deed))
        self.assertEqual(books, tuple(own))
        self.assertEqual(asked(last_book, history), own[-1])

    def check_refused(self, history, k, why):
        self.assertEqual(refused(books_of, history), ("NoSuch", k, why), history)
        self.assertEqual(refused(last_book, history), ("NoSuch", k, why), history)
        self.assertIs(asked(is_history, history), False)
        with self.assertRaises(NoSuch):
            books_of(history)

    def test_shape(self):
        for thing in (
            None, 0, True, "meet", (), [], ["meet", AB], ("meet", ()), ("meet", ["al"]), ("fold", "al", (0,), (0,)),
            ("drop", "al", ()), ("say", "al", (True,)), ("ask", "al", "bo", (), ()), ("world", 2, AB), MEET + (1,),
            ("meet", ("bo", "al")), ("ask", "al", "bo", (), tuple((k,) for k in range(5))), ((MEET,),),
        ):
            self.check_refused((2, AB, (thing,)), 0, "shape")
            self.check_refused((2, AB, (MEET, thing)), 1, "shape")
            self.check_refused((2, AB, (*DEEDS, thing, None)), 6, "shape")

    def test_barred(self):
        self.check_refused((2, AB, (("meet", ("cy",)),)), 0, "hand")
        self.check_refused((2, AB, (MEET, ("ask", "al", "al", (), ((0,),)))), 1, "hand")
        self.check_refused((1, AB, (MEET, MEET)), 1, "room")
        self.check_refused((2, AB, (MEET, MEET, ("meet", ("bo",)))), 2, "room")
        self.check_refused((2, AB, (("fold", "al", (0,), (1,)),)), 0, "word")
        self.check_refused((2, AB, (MEET, ("drop", "al", (1,)))), 1, "word")
        self.check_refused((2, AB, (MEET, ("say", "al", (1,)))), 1, "word")
        self.check_refused((2, AB, (("meet", ("al",)), ("ask", "al", "bo", (), ((0,),)))), 1, "word")
        self.check_refused((2, AB, (MEET, ("say", "al", (0,)), ("say", "bo", (0,)))), 2, "there")

    def test_first_that_cannot_stand(self):
        self.check_refused((2, AB, (MEET, ("drop", "al", (1,)), None)), 1, "word")
        self.check_refused((2, AB, (MEET, None, ("drop", "al", (1,)))), 1, "shape")
        self.check_refused((1, AB, (MEET, MEET, MEET)), 1, "room")

    def test_drawn(self):
        rng = random.Random(241)
        for _ in range(250):
            history, books = byhand.draw_history(rng)
            told = asked(books_of, history)
            self.assertEqual(told, books)
            self.assertTrue(byhand.plain(told))
            self.assertEqual(asked(last_book, history), books[-1])
            self.assertIs(asked(is_history, history), True)
            for one in told:
                self.assertIs(lets_book(one), True)
            many = rng.randint(0, len(history[2]))
            self.assertEqual(books_of((*history[:2], history[2][:many])), told[:many + 1])

    def test_purses_of_its_books(self):
        rng = random.Random(242)
        for _ in range(150):
            for one in books_of(byhand.draw_history(rng)[0]):
                for hand, purse in zip(one[1], one[3]):
                    met = [meeting for word in purse for meeting in word]
                    self.assertEqual(len(met), len(set(met)))
                    self.assertTrue(all(hand in one[2][meeting] for meeting in met))

    def test_drawn_bent(self):
        rng = random.Random(243)
        whys = {}
        for _ in range(700):
            (room, hands, deeds), books = byhand.draw_history(rng, most=8, most_hands=3)
            at = rng.randint(0, len(deeds))
            again = [("say", rng.choice(hands), word) for word in books[at][4][:1]]
            bent = byhand.spoilt(rng, rng.choice(deeds or (MEET,)))
            wrong = rng.choice([bent, bent, byhand.draw_thing(rng, 2), *again])
            history = room, hands, (*deeds[:at], wrong, *deeds[at:])
            told = refused(books_of, history)
            if told[0] == "NoSuch":
                self.assertIs(is_history(history), False)
                self.assertGreaterEqual(told[1], at)
                whys[told[2]] = True
            else:
                self.assertIs(is_history(history), True)
            self.assertEqual(told, self.by_hand(history))
        self.assertEqual(sorted(whys), ["hand", "room", "shape", "there", "word"])

    def by_hand(self, history):
        books = [first_book(*history[:2])]
        for k, thing in enumerate(history[2]):
            why = byhand.barred(books[-1], thing) if is_deed(thing) else "shape"
            if why:
                return "NoSuch", k, why
            books.append(byhand.behind(books[-1], thing))
        return tuple(books)


class IsHistory(unittest.TestCase):
    def test_histories(self):
        for thing in ((2, AB, DEEDS), (2, AB, ()), (10 ** 59, AB, (MEET,) * 9), (1, byhand.NAMES, ()), forty()):
            self.assertIs(asked(is_history, thing), True)
        self.assertIs(is_history(thing=(2, AB, ())), True)

    def test_others(self):
        for thing in (
            None, 0, True, "history", (), [], [2, AB, ()], (2, AB), (2, AB, (), ()), (0, AB, ()), (-1, AB, ()),
            (True, AB, ()), (None, AB, ()), ("2", AB, ()), ((2,), AB, ()), (2, (), ()), (2, ("al",), ()),
            (2, ("bo", "al"), ()), (2, ("al", "al"), ()), (2, ["al", "bo"], ()), (2, ("al", "Bo"), ()),
            (2, ("al", 0), ()), (2, ("al", ("bo",)), ()), (2, "al", ()), (2, None, ()), (2, AB, []), (2, AB, None),
            (2, AB, [MEET]), (2, AB, 0), (2, AB, "meet"), (2, AB, MEET), (2, AB, (list(MEET),)), (2, AB, (None,)),
            (2, ("al", "abcdefghi"), ()), (2, ("", "al"), ()), (2, ("al", "cy", "bo"), (MEET,)), (2, (AB, AB), ()),
        ):
            self.assertIs(asked(is_history, thing), False, thing)

    def test_drawn_spoilt(self):
        rng = random.Random(244)
        for _ in range(700):
            thing = byhand.spoilt(rng, (2, AB, DEEDS))
            told = asked(is_history, thing)
            self.assertIs(type(told), bool)
            if told:
                self.assertTrue(byhand.plain(thing))
                self.assertEqual(len(books_of(thing)), len(thing[2]) + 1)
        for _ in range(500):
            self.assertIs(asked(is_history, byhand.draw_thing(rng)), False)
