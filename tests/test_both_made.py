import random
import unittest

from metbefore.bothmade import both_beyond, both_make
from metbefore.ranks import rank_beyond
from metbefore.rests import rest_of
from tests import byhand
from tests.byhand import asked, draw_words
from tests.test_ranks import fifteen, forty_four

SIXTY = 10 ** 59


class BothMake(unittest.TestCase):
    def test_told(self):
        self.assertEqual(asked(both_make, ((0,), (1,)), ((0, 1), (2,))), ((0, 1),))
        self.assertEqual(asked(both_make, ((0,), (1,)), ((2,),)), ())
        self.assertEqual(asked(both_make, (), ((2,),)), ())
        self.assertEqual(asked(both_make, ((2,),), ()), ())
        self.assertEqual(asked(both_make, (), ()), ())
        self.assertEqual(asked(both_make, ((), (2,)), ((2,), (2,))), ((2,),))
        self.assertEqual(asked(both_make, ((0, 1), (1, 2)), ((0, 2), (0,))), ((0, 2),))
        self.assertEqual(asked(both_make, ((0, 2), (1, 2), (3,)), ((0, 1), (3, SIXTY), (SIXTY,))), ((0, 1), (3,)))
        self.assertEqual(both_make(other=((1,),), one=((0,), (1,))), ((1,),))

    def test_many_words(self):
        told = asked(both_make, forty_four(), fifteen())
        self.assertTrue(byhand.is_base(told, byhand.all_made(fifteen())))
        words = tuple((k, k + 1) for k in range(60))
        self.assertEqual(asked(both_make, words, ((0, 60), (3,))), ((0, 60),))

    def test_drawn_against_all_sums(self):
        rng = random.Random(311)
        some = 0
        for _ in range(400):
            one, other = draw_words(rng), draw_words(rng)
            both = byhand.all_made(one) & byhand.all_made(other)
            told = asked(both_make, one, other)
            self.assertTrue(byhand.is_base(told, both))
            self.assertEqual(both_make(other, one), told)
            some += 1 < len(both) < min(len(byhand.all_made(one)), len(byhand.all_made(other)))
        self.assertGreater(some, 50)


class BothBeyond(unittest.TestCase):
    def test_told(self):
        self.assertEqual(asked(both_beyond, ((0,),), ((0, 1),), ((1,),)), ((0,),))
        self.assertEqual(asked(both_beyond, ((0,),), ((0, 1),), ()), ())
        self.assertEqual(asked(both_beyond, ((0,), (1,)), ((0,), (1,)), ((0, 1),)), ((1,),))
        self.assertEqual(asked(both_beyond, ((0,), (2,)), ((0,), (2,)), ((0,), (), (0,))), ((2,),))
        self.assertEqual(asked(both_beyond, (), (), ((0,),)), ())
        self.assertEqual(asked(both_beyond, ((5,),), (), ((0,),)), ())
        self.assertEqual(asked(both_beyond, ((0, SIXTY),), ((3,),), ((0, 3), (SIXTY,))), ((3,),))
        self.assertEqual(both_beyond(others=((1,),), other=((0, 1),), one=((0,),)), ((0,),))

    def test_one_more_among_the_others(self):
        # (0) takes from what is beyond them, (1) adds to it.
        one, other = ((0,), (2,)), ((0,), (1, 2))
        self.assertEqual(len(asked(both_beyond, one, other, ())), 1)
        self.assertEqual(len(asked(both_beyond, one, other, ((0,),))), 0)
        self.assertEqual(len(asked(both_beyond, one, other, ((1,),))), 2)
        self.assertEqual(len(asked(both_beyond, one, other, ((0,), (1,)))), 1)
        self.assertEqual(len(asked(both_beyond, one, other, ((7,),))), 1)

    def test_drawn(self):
        rng = random.Random(312)
        turned = {}
        for _ in range(400):
            one, other, others = draw_words(rng, 6, 4), draw_words(rng, 6, 4), draw_words(rng, 6, 3)
            told = asked(both_beyond, one, other, others)
            both = byhand.all_made(one + others) & byhand.all_made(other + others)
            rests = tuple(rest_of(others, byhand.word(bits)) for bits in both)
            self.assertTrue(byhand.is_base(told, byhand.all_made(rests)))
            together = rank_beyond(one + other, others)
            self.assertEqual(len(told), rank_beyond(one, others) + rank_beyond(other, others) - together)
            word = byhand.word(rng.randrange(64))
            more = len(both_beyond((*one, word), other, others))
            self.assertGreaterEqual(more, len(told))
            turned[len(both_beyond(one, other, (*others, word))) - len(told)] = True
        self.assertEqual(sorted(turned), [-1, 0, 1])
