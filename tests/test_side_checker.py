import random
import unittest

from metbefore.errors import NoPaper
from metbefore.sidechecker import lets_side
from tests import byhand
from tests.byhand import asked, refused

ALL = ("al", "bo", "cy")
BOOK = (4, ALL, (ALL, ALL), (((0,), (1,)), ((0,),), ((1,),)), ())


class LetsSide(unittest.TestCase):
    def test_told(self):
        self.assertEqual(asked(lets_side, BOOK, "al", "cy", ("al",)), 2)
        self.assertEqual(asked(lets_side, BOOK, "al", "cy", ("al", "bo")), 1)
        self.assertEqual(asked(lets_side, BOOK, "cy", "al", ("bo", "cy")), 2)
        self.assertEqual(lets_side(thing=("al",), guest="cy", door="al", book=BOOK), 2)

    def test_shape(self):
        for thing in (
            None, 0, True, "al", "", [], ["al"], ("bo", "al"), ("al", "al"), ("al", "Bo"), ("al", ""), ("al", 0),
            ("al", None), (("al",),), ("al", True), ("abcdefghi",), ("al", "di", "cy"), ("al", ["bo"]),
        ):
            self.assertEqual(refused(lets_side, BOOK, "al", "cy", thing), ("NoPaper", "shape", -1), thing)

    def test_hand(self):
        for thing, k in (
            (("di",), 0), (("al", "di"), 1), (("aa", "al"), 0), (("al", "bo", "x", "y"), 2), (("cy", "di"), 1),
        ):
            self.assertEqual(refused(lets_side, BOOK, "al", "cy", thing), ("NoPaper", "hand", k), thing)

    def test_door(self):
        for thing in ((), ("bo",), ("bo", "cy"), ("cy",)):
            self.assertEqual(refused(lets_side, BOOK, "al", "cy", thing), ("NoPaper", "door", -1), thing)

    def test_guest(self):
        for thing in (("al", "cy"), ALL):
            self.assertEqual(refused(lets_side, BOOK, "al", "cy", thing), ("NoPaper", "guest", -1), thing)
            self.assertEqual(refused(lets_side, BOOK, "cy", "al", thing), ("NoPaper", "guest", -1), thing)

    def test_drawn_sides(self):
        for book, door, guest in byhand.drawn(131, 60):
            for side in byhand.sides(book, door, guest):
                told = asked(lets_side, book, door, guest, side)
                self.assertIs(type(told), int)
                self.assertEqual(told, byhand.held(book, side))

    def test_drawn_spoilt(self):
        rng = random.Random(132)
        for book, door, guest in byhand.drawn(133, 1000):
            thing = byhand.spoilt(rng, rng.choice(byhand.sides(book, door, guest)))
            told = refused(lets_side, book, door, guest, thing)
            if thing in byhand.sides(book, door, guest):
                self.assertEqual(told, byhand.held(book, thing))
            else:
                self.assertEqual(told[0], "NoPaper")

    def test_drawn_any_thing(self):
        rng = random.Random(134)
        for _ in range(500):
            thing = byhand.draw_thing(rng)
            told = refused(lets_side, BOOK, "al", "cy", thing)
            self.assertTrue(told[0] == "NoPaper" if thing not in (("al",), ("al", "bo")) else told in (1, 2))

    def test_refused_by_the_class(self):
        with self.assertRaises(NoPaper):
            lets_side(BOOK, "al", "cy", None)
