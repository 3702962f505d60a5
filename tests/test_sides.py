import random
import unittest

from metbefore.sides import held_by, sides_of
from tests import byhand
from tests.byhand import asked, rows

ALL = ("al", "bo", "cy")
BOOK = (2, ALL, (ALL, ALL), (((0,), (1,)), ((0,),), ((1,),)), ())


class SidesOf(unittest.TestCase):
    def test_three_hands(self):
        self.assertEqual(asked(sides_of, BOOK, "al", "cy"), (("al",), ("al", "bo")))
        self.assertEqual(asked(sides_of, BOOK, "cy", "al"), (("bo", "cy"), ("cy",)))
        self.assertEqual(asked(sides_of, BOOK, "bo", "al"), (("bo",), ("bo", "cy")))

    def test_two_hands_alone(self):
        book = rows(("al", "bo"), (((0,),), ()))
        self.assertEqual(asked(sides_of, book, "al", "bo"), (("al",),))
        self.assertEqual(asked(sides_of, book, "bo", "al"), (("bo",),))

    def test_drawn(self):
        for book, door, guest in byhand.drawn(1, 120):
            told = asked(sides_of, book, door, guest)
            self.assertEqual(told, byhand.sides(book, door, guest))
            self.assertTrue(byhand.plain(told))
            self.assertEqual(sides_of(guest=guest, door=door, book=book), told)


class HeldBy(unittest.TestCase):
    def test_example(self):
        book = rows(ALL, (((0,), (1,)), ((0,),), ((1,),)))
        self.assertEqual(asked(held_by, book, ("al",)), 2)
        self.assertEqual(asked(held_by, book, ("bo",)), 1)
        self.assertEqual(asked(held_by, book, ("al", "bo")), 1)
        self.assertEqual(asked(held_by, book, ("bo", "cy")), 2)

    def test_sums_count_as_words_do(self):
        book = rows(ALL, (((0, 1),), ((1,),), ((0,),)))
        self.assertEqual(asked(held_by, book, ("al",)), 1)
        self.assertEqual(asked(held_by, book, ("al", "bo")), 1)

    def test_nobody_and_all(self):
        for book, _, _ in byhand.drawn(2, 40):
            self.assertEqual(asked(held_by, book, ()), 0)
            self.assertEqual(asked(held_by, book, book[1]), 0)

    def test_board_makes_all(self):
        book = rows(ALL, (((0,), (1,)), ((0,), (0, 1)), ((1,),)), ((0,), (0, 1)))
        for side in ((), ("al",), ("bo",), ("al", "cy"), ALL):
            self.assertEqual(asked(held_by, book, side), 0)

    def test_board_counts_beyond_alone(self):
        book = rows(ALL, (((0,), (1,)), ((0, 1),), ()), ((0, 5),))
        self.assertEqual(asked(held_by, book, ("al",)), 1)
        book = rows(ALL, (((0,),), ((5,),), ()), ((0, 5),))
        self.assertEqual(asked(held_by, book, ("al",)), 1)

    def test_void_purses(self):
        book = rows(ALL, ((), (), ()), ((0,),))
        self.assertEqual(asked(held_by, book, ("al", "bo")), 0)

    def test_drawn_against_all_sums(self):
        rng = random.Random(3)
        for book, _, _ in byhand.drawn(4, 150):
            side = tuple(sorted(rng.sample(book[1], rng.randint(0, len(book[1])))))
            told = asked(held_by, book, side)
            self.assertIs(type(told), int)
            self.assertEqual(told, byhand.held(book, side))
            self.assertEqual(held_by(side=side, book=book), told)

    def test_as_many_by_the_others(self):
        for book, door, guest in byhand.drawn(5, 60):
            for side in sides_of(book, door, guest):
                others = tuple(hand for hand in book[1] if hand not in side)
                self.assertEqual(held_by(book, side), held_by(book, others))


    def test_asked_again_between_others(self):
        books = byhand.drawn(9, 20)
        first = [(sides_of(*asks), held_by(asks[0], asks[1:2])) for asks in books]
        again = [(sides_of(*asks), held_by(asks[0], asks[1:2])) for asks in reversed(books)]
        self.assertEqual(first, again[::-1])


class HeldBehindDeeds(unittest.TestCase):
    def test_say(self):
        rng = random.Random(6)
        for book, door, guest in byhand.drawn(7, 80):
            said = byhand.draw_word(rng, len(book[2]))
            if byhand.number(said) in byhand.all_made(book[4]):
                continue
            for side in sides_of(book, door, guest):
                others = [hand for hand in book[1] if hand not in side]
                both = byhand.made_by(book, side) & byhand.made_by(book, others)
                fewer = byhand.number(said) in both
                makers = byhand.made_by(book, side) | byhand.made_by(book, others)
                if byhand.number(said) in makers:
                    behind = byhand.behind_say(book, said)
                    self.assertEqual(held_by(behind, side), held_by(book, side) - fewer)

    def test_fold(self):
        folded = 0
        for book, door, guest in byhand.drawn(10, 60):
            for hand in book[1]:
                purse = byhand.purse_of(book, hand)
                if len(purse) > 1:
                    one, other = purse[0], purse[-1]
                    both = byhand.word(byhand.number(one) ^ byhand.number(other))
                    behind = byhand.with_purse(book, hand, {*purse[1:-1], both})
                    for side in sides_of(book, door, guest):
                        self.assertLessEqual(held_by(behind, side), held_by(book, side))
                        folded += held_by(behind, side) < held_by(book, side)
        self.assertGreater(folded, 10)

    def test_drop_and_meet(self):
        for book, door, guest in byhand.drawn(8, 60):
            room, hands, meetings, purses, board = book
            met = len(meetings)
            for side in sides_of(book, door, guest):
                held = held_by(book, side)
                for hand in hands:
                    if byhand.purse_of(book, hand):
                        dropped = byhand.with_purse(book, hand, byhand.purse_of(book, hand)[1:])
                        self.assertLessEqual(held_by(dropped, side), held)
                both = byhand.with_purse(book, door, (*byhand.purse_of(book, door), (met,)))
                self.assertEqual(held_by(both, side), held)
                both = byhand.with_purse(both, guest, (*byhand.purse_of(both, guest), (met,)))
                self.assertEqual(held_by((room + 1, hands, (*meetings, hands), both[3], board), side), held + 1)
