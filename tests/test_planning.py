import random
import unittest

from metbefore.harms import harmless
from metbefore.leastsides import least_sides
from metbefore.planning import plan_of
from metbefore.sides import held_by, sides_of
from tests import byhand
from tests.byhand import asked, rows

ALL = ("al", "bo", "cy")


class PlanOf(unittest.TestCase):
    def behind(self, book, door, guest, plan):
        """The book behind a plan, each say of which can be done."""
        self.assertTrue(byhand.plain(plan))
        self.assertIs(type(plan), tuple)
        for pair in plan:
            self.assertEqual(len(pair), 2)
            hand, word = pair
            self.assertIn(hand, book[1])
            self.assertNotIn(hand, (door, guest))
            self.assertNotEqual(word, ())
            self.assertEqual(word, tuple(sorted({*word})))
            self.assertIn(byhand.number(word), byhand.made_by(book, (hand,)))
            self.assertNotIn(word, book[4])
            book = byhand.behind_say(book, word)
        return book

    def test_sum_alone(self):
        book = rows(ALL, (((0,),), ((0,), (1,)), ((1,),)))
        self.assertEqual(asked(plan_of, book, "al", "cy"), (("bo", (0, 1)),))
        self.assertEqual(asked(plan_of, book, "cy", "al"), (("bo", (0, 1)),))

    def test_two_hands_alone(self):
        for book, door, guest in byhand.drawn(31, 20, most_hands=2):
            self.assertEqual(asked(plan_of, book, door, guest), ())

    def test_helper_without_a_harmless_word(self):
        hands = byhand.NAMES[:4]
        book = rows(hands, (((0,), (1,)), ((0,),), ((1,), (2,)), ((0,), (2,))))
        self.assertEqual(harmless(book, "al", "di", "bo"), ())
        self.assertEqual(asked(plan_of, book, "al", "di"), (("cy", (1, 2)),))

    def test_chain_of_helpers(self):
        hands = byhand.NAMES[:4]
        book = rows(hands, (((0,),), ((0,), (1,)), ((1,), (2,)), ((2,),)))
        plan = asked(plan_of, book, "al", "di")
        self.assertEqual(byhand.free(self.behind(book, "al", "di", plan), "al", "di"), 1)

    def test_void_purses_and_board_that_makes_all(self):
        for book in (rows(ALL, ((), (), ())), rows(ALL, (((0,),), ((0, 1),), ((1,),)), ((0,), (1,)))):
            plan = asked(plan_of, book, "bo", "cy")
            self.assertEqual(byhand.free(self.behind(book, "bo", "cy", plan), "bo", "cy"), 0)

    def test_drawn(self):
        raised = 0
        for book, door, guest in byhand.drawn(32, 300):
            plan = asked(plan_of, book, door, guest)
            behind = self.behind(book, door, guest, plan)
            fewest = byhand.least(book, door, guest)[0]
            self.assertEqual(byhand.free(behind, door, guest), fewest)
            raised += byhand.free(book, door, guest) < fewest
            again = plan_of(guest=guest, door=door, book=book)
            self.assertEqual(byhand.free(self.behind(book, door, guest, again), door, guest), fewest)
        self.assertGreater(raised, 20)

    def test_whatever_is_said_no_more_are_free(self):
        rng = random.Random(33)
        for book, door, guest in byhand.drawn(34, 80):
            fewest = least_sides(book, door, guest)[0]
            now = book
            for _ in range(6):
                sayable = sorted(byhand.made_by(now, (rng.choice(book[1]),)) - {0})
                if sayable:
                    now = byhand.behind_say(now, byhand.word(rng.choice(sayable)))
                    self.assertLessEqual(byhand.free(now, door, guest), fewest)
            for side in sides_of(book, door, guest):
                self.assertLessEqual(byhand.free(now, door, guest), held_by(book, side))
