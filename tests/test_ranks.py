import random
import unittest

from metbefore.bases import base_of, makes
from metbefore.bothmade import both_make
from metbefore.ranks import rank_beyond, rank_of
from tests import byhand
from tests.byhand import asked, draw_words

SIXTY = 10 ** 59
FIVE = tuple(byhand.word(bits) for bits in (7, 25, 98, 320, 516))


def fifteen():
    """Fifteen words of rank five, in no order."""
    made = sorted(byhand.all_made(FIVE) - {0}, key=lambda bits: bits * 37 % 101)
    return tuple(byhand.word(bits) for bits in made[:15])


def forty_four():
    """Forty-four words of rank twelve."""
    rng = random.Random(200)
    words = [(m,) for m in range(12)] + [byhand.word(rng.randrange(1 << 12)) for _ in range(32)]
    rng.shuffle(words)
    return tuple(words)


class RankOf(unittest.TestCase):
    def test_told(self):
        self.assertEqual(asked(rank_of, ((0, 1), (1, 2), (0, 2))), 2)
        self.assertEqual(asked(rank_of, ()), 0)
        self.assertEqual(asked(rank_of, ((),)), 0)
        self.assertEqual(asked(rank_of, ((), (3,), (), (3,))), 1)
        self.assertEqual(asked(rank_of, ((SIXTY,), (0, SIXTY), (0,), (0, SIXTY + 1))), 3)
        self.assertEqual(rank_of(words=((0,), (1,))), 2)

    def test_many_words(self):
        self.assertEqual(len(set(fifteen())), 15)
        self.assertEqual(asked(rank_of, fifteen()), 5)
        self.assertEqual(len(forty_four()), 44)
        self.assertEqual(asked(rank_of, forty_four()), 12)
        self.assertEqual(asked(rank_of, tuple((k, k + 1) for k in range(200))), 200)

    def test_drawn_against_all_sums(self):
        rng = random.Random(201)
        for _ in range(300):
            words = draw_words(rng)
            told = asked(rank_of, words)
            self.assertIs(type(told), int)
            self.assertEqual(told, byhand.power(len(byhand.all_made(words))))
            self.assertEqual(told, len(base_of(words)))

    def test_a_word_more(self):
        rng = random.Random(202)
        for _ in range(200):
            words, word = draw_words(rng), byhand.word(rng.randrange(64))
            more = words[:2] + (word,) + words[2:]
            self.assertEqual(rank_of(more), rank_of(words) + (not makes(words, word)))

    def test_same_base_just_where_the_same_is_made(self):
        rng = random.Random(203)
        same = 0
        for _ in range(400):
            one, other = draw_words(rng, 3, 4), draw_words(rng, 3, 4)
            alike = byhand.all_made(one) == byhand.all_made(other)
            self.assertEqual(base_of(one) == base_of(other), alike)
            same += alike
        self.assertGreater(same, 30)


class RankBeyond(unittest.TestCase):
    def test_told(self):
        self.assertEqual(asked(rank_beyond, ((0, 1), (1, 2), (0, 2)), ((0, 2),)), 1)
        self.assertEqual(asked(rank_beyond, (), ((0,),)), 0)
        self.assertEqual(asked(rank_beyond, ((0,), (), (0,)), ()), 1)
        self.assertEqual(asked(rank_beyond, (), ()), 0)
        self.assertEqual(asked(rank_beyond, ((0,),), ((0, 1), (1,))), 0)
        self.assertEqual(asked(rank_beyond, ((0,), (5,)), ((0, 1), ())), 2)
        self.assertEqual(asked(rank_beyond, ((0,), (1,)), ((SIXTY,), (0, 1, SIXTY))), 1)
        self.assertEqual(rank_beyond(others=((0,),), words=((0,), (1,), (2,))), 2)

    def test_many_words(self):
        self.assertEqual(asked(rank_beyond, forty_four(), fifteen()), 7)
        self.assertEqual(asked(rank_beyond, fifteen(), forty_four()), 0)

    def test_drawn_against_all_sums(self):
        rng = random.Random(204)
        for _ in range(300):
            words, others = draw_words(rng), draw_words(rng)
            told = asked(rank_beyond, words, others)
            self.assertIs(type(told), int)
            self.assertEqual(told, byhand.beyond(words, others))
            self.assertEqual(told, rank_of(words + others) - rank_of(others))

    def test_both_ranks(self):
        rng = random.Random(205)
        for _ in range(200):
            one, other = draw_words(rng), draw_words(rng)
            both = both_make(one, other)
            self.assertEqual(rank_of(one + other) + rank_of(both), rank_of(one) + rank_of(other))
