import random
import unittest

from metbefore.bounds import MOST
from metbefore.making import all_made
from tests import byhand
from tests.byhand import asked, draw_words, refused
from tests.test_ranks import fifteen, forty_four

SIXTY = 10 ** 59
TWELVE = tuple((k, k + 1) for k in range(12))


class AllMade(unittest.TestCase):
    def test_told(self):
        self.assertEqual(asked(all_made, ((0, 1), (1, 2), (0, 2))), ((), (0, 1), (0, 2), (1, 2)))
        self.assertEqual(asked(all_made, ()), ((),))
        self.assertEqual(asked(all_made, ((), ())), ((),))
        self.assertEqual(asked(all_made, ((2,), (2,))), ((), (2,)))
        self.assertEqual(asked(all_made, ((SIXTY,), (3, SIXTY))), ((), (3,), (3, SIXTY), (SIXTY,)))
        self.assertEqual(all_made(most=2, words=((1, 4),)), ((), (1, 4)))

    def test_rises_as_tuples_do(self):
        self.assertEqual(
            asked(all_made, ((2,), (0,), (10,))),
            ((), (0,), (0, 2), (0, 2, 10), (0, 10), (2,), (2, 10), (10,)),
        )

    def test_many_words(self):
        told = asked(all_made, fifteen())
        self.assertEqual(len(told), 32)
        self.assertEqual({byhand.number(one) for one in told}, byhand.all_made(fifteen()))
        self.assertEqual(len(asked(all_made, forty_four())), 4096)

    def test_just_most(self):
        told = asked(all_made, TWELVE)
        self.assertEqual(len(told), MOST)
        self.assertEqual(told, tuple(sorted(set(told))))
        self.assertEqual(refused(all_made, (*TWELVE, (0,))), ("NoMore", 4096))
        self.assertEqual(len(asked(all_made, (*TWELVE, (0,)), most=8192)), 8192)
        self.assertEqual(refused(all_made, TWELVE, most=4095), ("NoMore", 4095))

    def test_most(self):
        words = ((0,), (0, 1), (2,), (1,))
        self.assertEqual(refused(all_made, words, most=7), ("NoMore", 7))
        for most in (8, 9, 15, 16, 10 ** 59):
            self.assertEqual(len(asked(all_made, words, most=most)), 8)
        for most in (0, 1, 3, 4, 6):
            self.assertEqual(refused(all_made, words, most=most), ("NoMore", most))

    def test_most_nought_and_one(self):
        self.assertEqual(refused(all_made, (), most=0), ("NoMore", 0))
        self.assertEqual(refused(all_made, ((),), most=0), ("NoMore", 0))
        self.assertEqual(asked(all_made, ((),), most=1), ((),))
        self.assertEqual(refused(all_made, ((1,),), most=1), ("NoMore", 1))

    def test_rank_far_beyond(self):
        self.assertEqual(refused(all_made, tuple((k,) for k in range(300))), ("NoMore", 4096))

    def test_most_by_name_alone(self):
        with self.assertRaises(TypeError):
            all_made((), 4)

    def test_drawn_against_all_sums(self):
        rng = random.Random(211)
        for _ in range(250):
            words = draw_words(rng)
            made = byhand.all_made(words)
            told = asked(all_made, words)
            self.assertTrue(byhand.plain(told))
            self.assertEqual(told, tuple(sorted(byhand.word(bits) for bits in made)))
            self.assertEqual(refused(all_made, words, most=len(made) - 1), ("NoMore", len(made) - 1))
            self.assertEqual(asked(all_made, words, most=len(made)), told)
            self.assertEqual(asked(all_made, words, most=len(made) + 1), told)

    def test_keeps_the_very_most(self):
        most = 10 ** 20
        with self.assertRaises(Exception) as caught:
            all_made(tuple((k,) for k in range(80)), most=most)
        self.assertIs(caught.exception.most, most)
