import random
import unittest

from metbefore.bases import base_of, makes
from metbefore.ranks import rank_beyond
from metbefore.rests import base_beyond, rest_of
from metbefore.wordsums import sum_of
from tests import byhand
from tests.byhand import asked, draw_words
from tests.test_ranks import fifteen, forty_four

SIXTY = 10 ** 59


class RestOf(unittest.TestCase):
    def test_told(self):
        words = ((0, 1), (1, 2), (0, 2))
        self.assertEqual(asked(rest_of, words, (0, 1)), ())
        self.assertEqual(asked(rest_of, words, (0,)), (2,))
        self.assertEqual(asked(rest_of, words, (1,)), (2,))
        self.assertEqual(asked(rest_of, words, (0, 1, 2)), (2,))
        self.assertEqual(asked(rest_of, words, (1, 5)), (2, 5))
        self.assertEqual(asked(rest_of, words, ()), ())
        self.assertEqual(asked(rest_of, (), (3, 4)), (3, 4))
        self.assertEqual(asked(rest_of, ((), ()), (3, 4)), (3, 4))
        self.assertEqual(asked(rest_of, ((3, SIXTY), (3,), (3,)), (0, 3, SIXTY)), (0,))
        self.assertEqual(rest_of(word=(0,), words=words), (2,))

    def test_first_meetings_go_not_last_ones(self):
        self.assertEqual(asked(rest_of, ((0, 1, 2),), (2,)), (2,))
        self.assertEqual(asked(rest_of, ((0, 1, 2),), (0,)), (1, 2))
        self.assertEqual(asked(rest_of, ((1, 3), (0, 1)), (0, 2)), (2, 3))

    def test_drawn(self):
        rng = random.Random(301)
        for _ in range(300):
            words, word = draw_words(rng), byhand.word(rng.randrange(64))
            rest = asked(rest_of, words, word)
            self.assertTrue(byhand.plain(rest))
            made = byhand.all_made(words)
            firsts = {one[0] for one in base_of(words)}
            # Of all sums of the word and one that is made just one is without these.
            fitting = [byhand.word(bits ^ byhand.number(word)) for bits in made]
            self.assertEqual([one for one in fitting if not firsts & {*one}], [rest])
            self.assertEqual(rest == (), makes(words, word))
            self.assertEqual(rest_of(words, rest), rest)

    def test_rest_of_a_sum(self):
        rng = random.Random(302)
        for _ in range(150):
            words = draw_words(rng)
            some = draw_words(rng)
            rests = tuple(rest_of(words, word) for word in some)
            self.assertEqual(rest_of(words, sum_of(some)), sum_of(rests))


class BaseBeyond(unittest.TestCase):
    def test_told(self):
        self.assertEqual(asked(base_beyond, ((0,), (1,)), ((0, 1), (1, 2))), ((2,),))
        self.assertEqual(asked(base_beyond, ((0, 1), (0, 2), (1, 2)), ()), ((0, 2), (1, 2)))
        self.assertEqual(asked(base_beyond, (), ((0,),)), ())
        self.assertEqual(asked(base_beyond, ((), (0,)), ((0,), ())), ())
        self.assertEqual(asked(base_beyond, ((0, 1), (0, 3)), ((0,), (0,))), ((1,), (3,)))
        self.assertEqual(asked(base_beyond, ((0, SIXTY),), ((0, 7),)), ((7, SIXTY),))
        self.assertEqual(base_beyond(others=((0,),), words=((0, 1),)), ((1,),))

    def test_forty_four_beyond_forty_three(self):
        words = tuple((k, k + 1) for k in range(43)) + ((43,),)
        self.assertEqual(asked(base_beyond, words, words[:43]), ((43,),))
        self.assertEqual(asked(base_beyond, words, words[1:]), ((0,),))
        self.assertEqual(asked(rank_beyond, words, words[:43]), 1)
        self.assertEqual(asked(base_beyond, words, words), ())
        self.assertEqual(len(asked(base_beyond, forty_four(), fifteen())), 7)

    def test_drawn(self):
        rng = random.Random(303)
        for _ in range(300):
            words, others = draw_words(rng), draw_words(rng)
            told = asked(base_beyond, words, others)
            rests = tuple(rest_of(others, word) for word in words)
            self.assertTrue(byhand.is_base(told, byhand.all_made(rests)))
            self.assertEqual(len(told), rank_beyond(words, others))
            self.assertEqual(byhand.all_made(told + others), byhand.all_made(words + others))
