import random
import unittest

from metbefore.errors import NoMeeting
from metbefore.wordsums import sign_of, sum_of
from tests import byhand
from tests.byhand import asked

SIXTY = 10 ** 59


class SumOf(unittest.TestCase):
    def test_told(self):
        self.assertEqual(asked(sum_of, ()), ())
        self.assertEqual(asked(sum_of, ((),)), ())
        self.assertEqual(asked(sum_of, ((0, 2),)), (0, 2))
        self.assertEqual(asked(sum_of, ((0, 1), (1, 2))), (0, 2))
        self.assertEqual(asked(sum_of, ((2,), (0,))), (0, 2))
        self.assertEqual(asked(sum_of, ((SIXTY,), (0, 1), (0, SIXTY + 1))), (1, SIXTY, SIXTY + 1))

    def test_each_counts_as_often_as_it_stands_there(self):
        self.assertEqual(asked(sum_of, ((0, 1), (0, 1))), ())
        self.assertEqual(asked(sum_of, ((0, 1), (), (0, 1), (0, 1))), (0, 1))

    def test_drawn(self):
        rng = random.Random(71)
        for _ in range(200):
            words = tuple(byhand.word(rng.randint(0, 63)) for _ in range(rng.randint(0, 7)))
            bits = 0
            for word in words:
                bits ^= byhand.number(word)
            told = asked(sum_of, words)
            self.assertEqual(told, byhand.word(bits))
            self.assertTrue(byhand.plain(told))
            self.assertEqual(sum_of(words=words), told)


class SignOf(unittest.TestCase):
    def test_told(self):
        self.assertEqual(asked(sign_of, (), ()), 0)
        self.assertEqual(asked(sign_of, (), (1, 1)), 0)
        self.assertEqual(asked(sign_of, (1,), (0, 1)), 1)
        self.assertEqual(asked(sign_of, (0, 1), (1, 1, 1)), 0)
        self.assertEqual(asked(sign_of, (0, 1, 2), (1, 1, 1)), 1)
        self.assertEqual(sign_of(signs=(1, 0), word=(0, 1)), 1)

    def test_first_without_a_sign(self):
        for word, signs, first in (
            ((0,), (), 0), ((0, 1), (1,), 1), ((0, 3, 5), (0, 1, 1), 3), ((2,), (0, 1), 2), ((1, SIXTY), (0, 1), SIXTY)
        ):
            with self.assertRaises(NoMeeting) as caught:
                asked(sign_of, word, signs)
            self.assertEqual(caught.exception.number, first)

    def test_last_with_a_sign(self):
        self.assertEqual(asked(sign_of, (2,), (0, 0, 1)), 1)

    def test_sign_of_a_sum(self):
        rng = random.Random(72)
        for _ in range(200):
            signs = tuple(rng.randint(0, 1) for _ in range(6))
            words = tuple(byhand.word(rng.randint(0, 63)) for _ in range(rng.randint(0, 5)))
            told = sign_of(sum_of(words), signs)
            self.assertIs(type(told), int)
            self.assertEqual(told, sum(sign_of(word, signs) for word in words) % 2)
            self.assertEqual(told, sum(signs[m] for word in words for m in word) % 2)
