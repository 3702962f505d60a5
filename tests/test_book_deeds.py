import random
import unittest

from metbefore.bookchecker import lets_book
from metbefore.bookdeeds import barred_by, done
from metbefore.bookkinds import is_deed
from metbefore.errors import NoDeed
from metbefore.making import all_made
from metbefore.ranks import rank_of
from metbefore.reaches import can_make, together
from metbefore.sides import held_by, sides_of
from tests import byhand
from tests.byhand import asked, refused

ALL = ("al", "bo", "cy")
MET = (ALL, ALL, ALL, ALL)
BOOK = (2, ALL, MET, (((0,), (1,)), ((0, 1),), ((0,), (3,))), ((2,), (2, 3)))


def book(al=(), bo=(), cy=(), board=(), room=3):
    return room, ALL, MET, (al, bo, cy), board


class Barred(unittest.TestCase):
    def check(self, where, deed, why):
        self.assertTrue(is_deed(deed), deed)
        self.assertEqual(asked(barred_by, where, deed), why, deed)
        self.assertEqual(barred_by(deed=deed, book=where), why)
        if why is not None:
            self.assertEqual(refused(done, where, deed), ("NoDeed", deed, why))
            with self.assertRaises(NoDeed) as caught:
                done(deed=deed, book=where)
            self.assertIs(caught.exception.deed, deed)

    def test_meet(self):
        self.check(BOOK, ("meet", ("bo",)), None)
        self.check(BOOK, ("meet", ("al",)), "room")
        self.check(BOOK, ("meet", ("al", "bo")), "room")
        self.check(BOOK, ("meet", ("bo", "cy")), "room")
        self.check(BOOK, ("meet", ("bo", "di")), "hand")
        self.check(BOOK, ("meet", ("di",)), "hand")
        self.check(BOOK, ("meet", ("al", "zz")), "hand")
        self.check(book(room=1), ("meet", ALL), None)

    def test_fold(self):
        self.check(BOOK, ("fold", "al", (0,), (1,)), None)
        self.check(BOOK, ("fold", "al", (1,), (0,)), None)
        self.check(BOOK, ("fold", "al", (0,), (2,)), "word")
        self.check(BOOK, ("fold", "al", (0, 1), (1,)), "word")
        self.check(BOOK, ("fold", "bo", (0,), (1,)), "word")
        self.check(BOOK, ("fold", "di", (0,), (1,)), "hand")
        self.check(BOOK, ("fold", "al", (0,), (9,)), "word")

    def test_drop(self):
        self.check(BOOK, ("drop", "bo", (0, 1)), None)
        self.check(BOOK, ("drop", "bo", (0,)), "word")
        self.check(BOOK, ("drop", "bo", (2,)), "word")
        self.check(BOOK, ("drop", "al", (0, 1)), "word")
        self.check(BOOK, ("drop", "di", (0,)), "hand")
        self.check(BOOK, ("drop", "al", (99,)), "word")

    def test_say(self):
        self.check(BOOK, ("say", "al", (0,)), None)
        self.check(BOOK, ("say", "al", (0, 1)), None)
        self.check(BOOK, ("say", "al", (0, 2)), None)
        self.check(BOOK, ("say", "bo", (0,)), "word")
        self.check(BOOK, ("say", "bo", (3,)), None)
        self.check(BOOK, ("say", "bo", (2,)), "there")
        self.check(BOOK, ("say", "cy", (2, 3)), "there")
        self.check(BOOK, ("say", "di", (2,)), "hand")
        self.check(BOOK, ("say", "di", (0,)), "hand")
        self.check(BOOK, ("say", "al", (0, 7)), "word")
        self.check(book(), ("say", "al", (0,)), "word")

    def test_ask(self):
        self.check(BOOK, ("ask", "al", "bo", (), ((0, 1),)), None)
        self.check(BOOK, ("ask", "al", "bo", ((2,),), ((0, 1),)), None)
        self.check(BOOK, ("ask", "al", "bo", ((0, 1),), ((0, 1),)), None)
        self.check(BOOK, ("ask", "al", "bo", (), ((2,), (3,), (2, 3), (0, 1, 2, 3))), None)
        self.check(BOOK, ("ask", "al", "cy", ((3,),), ((0,),)), None)
        self.check(BOOK, ("ask", "al", "bo", (), ((0,),)), "word")
        self.check(BOOK, ("ask", "bo", "al", (), ((0,),)), "word")
        self.check(BOOK, ("ask", "al", "bo", (), ((0, 1), (1,))), "word")
        self.check(BOOK, ("ask", "al", "bo", ((0, 1), (1,)), ((0, 1),)), "word")
        self.check(BOOK, ("ask", "bo", "al", ((1,),), ((0, 1),)), "word")
        self.check(BOOK, ("ask", "al", "bo", (), ((9,),)), "word")
        self.check(BOOK, ("ask", "al", "al", (), ((0,),)), "hand")
        self.check(BOOK, ("ask", "al", "al", ((9,),), ((9,),)), "hand")
        self.check(BOOK, ("ask", "di", "al", (), ((9,),)), "hand")
        self.check(BOOK, ("ask", "al", "di", (), ((2,),)), "hand")
        self.check(BOOK, ("ask", "di", "di", (), ((2,),)), "hand")

    def test_shown_makes_no_more(self):
        where = book(al=((0,), (1,)), bo=((0,), (0, 1, 2)))
        self.check(where, ("ask", "al", "bo", ((0,),), ((1, 2),)), "word")

    def test_drawn(self):
        rng = random.Random(231)
        seen = {}
        for where, _, _ in byhand.drawn(232, 1500, most_hands=4, most_meetings=6):
            deed = draw_any(rng, where)
            why = byhand.barred(where, deed)
            self.check(where, deed, why)
            seen[deed[0], why] = True
        # All kinds of deeds, each done or barred by each word that can bar it.
        self.assertEqual(len(seen), 16, sorted(map(str, seen)))


def draw_any(rng, where):
    """Any deed by kind, barred or not."""
    made = [byhand.draw_deed(rng, where) for _ in range(4)]
    deed = next((one for one in made if one), ("meet", (where[1][0],)))
    strangers = (*where[1], *where[1], *where[1], "zed")
    word = byhand.draw_word(rng, len(where[2]))
    others = {
        "meet": ("meet", tuple(sorted(set(rng.choices(strangers, k=rng.randint(1, 3)))))),
        "fold": ("fold", rng.choice(strangers), *rng.sample(((0,), (1,), (0, 1), word + (40,)), 2)),
        "drop": ("drop", rng.choice(strangers), word),
        "say": ("say", rng.choice(strangers), rng.choice((word, *where[4]))),
        "ask": ("ask", rng.choice(strangers), rng.choice(strangers), rng.choice(((), (word,))), (word,)),
    }
    return rng.choice((deed, deed, others[rng.choice(sorted(others))]))


class Done(unittest.TestCase):
    def check(self, where, deed, told):
        self.assertEqual(asked(done, where, deed), told)
        self.assertIs(lets_book(told), True)

    def test_meet(self):
        self.check(
            book(al=((0,),)), ("meet", ("al", "cy")),
            (3, ALL, (*MET, ("al", "cy")), (((0,), (4,)), (), ((4,),)), ()),
        )
        first = (1, ("al", "bo"), (), ((), ()), ())
        self.check(first, ("meet", ("bo",)), (1, ("al", "bo"), (("bo",),), ((), ((0,),)), ()))

    def test_fold(self):
        self.check(book(al=((0,), (1,))), ("fold", "al", (1,), (0,)), book(al=((0, 1),)))
        self.check(book(bo=((0, 1), (1, 2), (3,))), ("fold", "bo", (0, 1), (1, 2)), book(bo=((0, 2), (3,))))
        self.check(book(bo=((0, 1), (1,)), cy=((1,),)), ("fold", "bo", (0, 1), (1,)), book(bo=((0,),), cy=((1,),)))

    def test_fold_whose_sum_is_there(self):
        self.check(book(al=((0,), (0, 1), (1,))), ("fold", "al", (0,), (1,)), book(al=((0, 1),)))
        self.check(book(al=((0,), (0, 1), (1,))), ("fold", "al", (0,), (0, 1)), book(al=((1,),)))

    def test_drop(self):
        self.check(book(al=((0,), (1,)), bo=((0,),)), ("drop", "al", (0,)), book(al=((1,),), bo=((0,),)))
        self.check(book(cy=((0,),), board=((0,),)), ("drop", "cy", (0,)), book(board=((0,),)))

    def test_say(self):
        where = book(al=((1,),), board=((0,), (3,)))
        self.check(where, ("say", "al", (1,)), book(al=((1,),), board=((0,), (1,), (3,))))
        self.check(book(board=((0,), (1,))), ("say", "bo", (0, 1)), book(board=((0,), (0, 1), (1,))))

    def test_ask(self):
        where = book(al=((0,), (1,)), bo=((0,), (1,)), board=((2,),))
        told = book(al=((0,), (1,)), bo=((0,), (1,)), board=((0,), (0, 1), (1,), (2,)))
        self.check(where, ("ask", "al", "bo", ((0, 1),), ((1,), (0,))), told)
        self.check(where, ("ask", "bo", "al", ((0, 1), (1,), (2,)), ((2,), (1,), (0,))), told)
        self.check(told, ("ask", "bo", "cy", ((0,),), ((0,), (1,))), told)
        self.check(told, ("ask", "cy", "al", (), ((0, 1, 2),)), (*told[:4], ((0,), (0, 1), (0, 1, 2), (1,), (2,))))

    def test_drawn(self):
        rng = random.Random(233)
        kinds = {}
        for where, _, _ in byhand.drawn(234, 700, most_hands=5, most_meetings=8):
            deed = byhand.draw_deed(rng, where)
            if deed is None:
                continue
            told = asked(done, where, deed)
            self.assertTrue(byhand.plain(told))
            self.assertEqual(told, byhand.behind(where, deed))
            self.assertIs(lets_book(told), True)
            kinds[deed[0]] = kinds.get(deed[0], 0) + 1
        self.assertGreater(min(kinds.values()), 20)
        self.assertEqual(sorted(kinds), ["ask", "drop", "fold", "meet", "say"])

    def test_what_all_make_behind_it(self):
        rng = random.Random(235)
        for where, _, _ in byhand.drawn(236, 300, most_hands=4, most_meetings=6):
            deed = byhand.draw_deed(rng, where)
            if deed is None:
                continue
            told = done(where, deed)
            hands = where[1]
            for hand in hands:
                ahead, later = set(all_made(can_make(where, hand))), set(all_made(can_make(told, hand)))
                if deed[0] in ("fold", "drop"):
                    self.assertLessEqual(later, ahead)
                if deed[0] in ("say", "ask"):
                    self.assertLessEqual(ahead, later)
                    if hand in byhand.hands_of(deed):
                        self.assertEqual(ahead, later)
            ahead, later = together(where, hands), together(told, hands)
            if deed[0] in ("fold", "drop"):
                some = tuple(sorted(rng.sample(hands, 2)))
                self.assertLessEqual(set(all_made(together(told, some))), set(all_made(together(where, some))))
            elif deed[0] == "meet":
                self.assertEqual(rank_of(later), rank_of(ahead) + 1)
            else:
                self.assertEqual(later, ahead)

    def test_held_behind_it(self):
        rng = random.Random(237)
        for where, door, guest in byhand.drawn(238, 300, most_hands=5, most_meetings=8):
            deed = byhand.draw_deed(rng, where)
            if deed is None or deed[0] == "ask":
                continue
            told = done(where, deed)
            for side in sides_of(where, door, guest):
                ahead, later = held_by(where, side), held_by(told, side)
                others = [hand for hand in where[1] if hand not in side]
                if deed[0] == "say" and byhand.number(deed[2]) not in byhand.all_made(where[4]):
                    both = byhand.made_by(where, side) & byhand.made_by(where, others)
                    self.assertEqual(later, ahead - (byhand.number(deed[2]) in both))
                elif deed[0] == "meet":
                    apart = {*deed[1]} & {*side} and {*deed[1]} & {*others}
                    self.assertEqual(later, ahead + bool(apart))
                else:
                    self.assertLessEqual(later, ahead)
