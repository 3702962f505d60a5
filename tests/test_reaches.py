import random
import unittest

from metbefore.reaches import can_make, makers_of, purse_of, together
from tests import byhand
from tests.byhand import asked, refused, rows

ALL = ("al", "bo", "cy")
BOOK = rows(ALL, (((0, 1), (1, 2)), ((0, 2), (3,)), ()), ((3, 4),))


class PurseOf(unittest.TestCase):
    def test_told(self):
        self.assertEqual(asked(purse_of, BOOK, "al"), ((0, 1), (1, 2)))
        self.assertEqual(asked(purse_of, BOOK, "bo"), ((0, 2), (3,)))
        self.assertEqual(asked(purse_of, BOOK, "cy"), ())
        self.assertEqual(purse_of(hand="cy", book=BOOK), ())

    def test_no_hand(self):
        for name in ("di", "a", "all", "zz"):
            self.assertEqual(refused(purse_of, BOOK, name), ("NoHand", name))

    def test_drawn(self):
        for book, _, _ in byhand.drawn(221, 40):
            for hand in book[1]:
                self.assertEqual(asked(purse_of, book, hand), byhand.purse_of(book, hand))


class CanMake(unittest.TestCase):
    def test_told(self):
        self.assertEqual(asked(can_make, BOOK, "al"), ((0, 2), (1, 2), (3, 4)))
        self.assertEqual(asked(can_make, BOOK, "bo"), ((0, 2), (3,), (4,)))
        self.assertEqual(asked(can_make, BOOK, "cy"), ((3, 4),))
        self.assertEqual(can_make(hand="cy", book=BOOK), ((3, 4),))

    def test_no_hand(self):
        self.assertEqual(refused(can_make, BOOK, "di"), ("NoHand", "di"))

    def test_void_purse_and_board(self):
        self.assertEqual(asked(can_make, rows(ALL, ((), ((1,),), ())), "al"), ())

    def test_board_makes_the_purse(self):
        book = rows(ALL, (((0,),), (), ()), ((0, 1), (1,)))
        self.assertEqual(asked(can_make, book, "al"), ((0,), (1,)))
        self.assertEqual(asked(can_make, book, "bo"), ((0,), (1,)))

    def test_drawn_against_all_sums(self):
        for book, hand, _ in byhand.drawn(222, 150):
            self.assertTrue(byhand.is_base(asked(can_make, book, hand), byhand.made_by(book, (hand,))))


class Together(unittest.TestCase):
    def test_told(self):
        self.assertEqual(asked(together, BOOK, ("al", "bo")), ((0, 2), (1, 2), (3,), (4,)))
        self.assertEqual(asked(together, BOOK, ALL), ((0, 2), (1, 2), (3,), (4,)))
        self.assertEqual(together(hands=("bo",), book=BOOK), ((0, 2), (3,), (4,)))

    def test_of_nobody_the_base_of_the_board(self):
        self.assertEqual(asked(together, BOOK, ()), ((3, 4),))
        book = rows(ALL, (((5,),), (), ()), ((0, 1), (0, 2)))
        self.assertEqual(asked(together, book, ()), ((0, 2), (1, 2)))
        self.assertEqual(asked(together, rows(ALL, (((5,),), (), ())), ()), ())

    def test_first_that_is_no_hand(self):
        for hands, name in (
            (("di",), "di"), (("al", "di"), "di"), (("aa", "al", "zz"), "aa"), (("al", "x", "y"), "x"),
            (("a", "b"), "a"),
        ):
            self.assertEqual(refused(together, BOOK, hands), ("NoHand", name))

    def test_drawn_against_all_sums(self):
        rng = random.Random(223)
        for book, _, _ in byhand.drawn(224, 150):
            hands = tuple(sorted(rng.sample(book[1], rng.randint(0, len(book[1])))))
            self.assertTrue(byhand.is_base(asked(together, book, hands), byhand.made_by(book, hands)))


class MakersOf(unittest.TestCase):
    def test_told(self):
        self.assertEqual(asked(makers_of, BOOK, (0, 2)), ("al", "bo"))
        self.assertEqual(asked(makers_of, BOOK, (0, 1)), ("al",))
        self.assertEqual(asked(makers_of, BOOK, (4,)), ("bo",))
        self.assertEqual(asked(makers_of, BOOK, (3, 4)), ALL)
        self.assertEqual(asked(makers_of, BOOK, (0,)), ())
        self.assertEqual(asked(makers_of, BOOK, ()), ALL)
        self.assertEqual(asked(makers_of, rows(ALL, ((), (), ())), ()), ALL)
        self.assertEqual(makers_of(word=(3,), book=BOOK), ("bo",))

    def test_drawn_against_all_sums(self):
        rng = random.Random(225)
        for book, _, _ in byhand.drawn(226, 120):
            for bits in {rng.choice(sorted(byhand.made_by(book, rng.sample(book[1], 1)))), rng.randrange(64)}:
                makers = tuple(hand for hand in book[1] if bits in byhand.made_by(book, (hand,)))
                told = asked(makers_of, book, byhand.word(bits))
                self.assertEqual(told, makers)
                self.assertTrue(byhand.plain(told))
