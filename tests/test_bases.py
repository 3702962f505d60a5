import random
import unittest

from metbefore.bases import base_of, makes
from tests import byhand
from tests.byhand import asked, draw_words

SIXTY = 10 ** 59


class BaseOf(unittest.TestCase):
    def test_told(self):
        self.assertEqual(asked(base_of, ((0, 1), (1, 2), (0, 2))), ((0, 2), (1, 2)))
        self.assertEqual(asked(base_of, ()), ())
        self.assertEqual(asked(base_of, ((), ())), ())
        self.assertEqual(asked(base_of, ((3,), (0,), (3,))), ((0,), (3,)))
        self.assertEqual(asked(base_of, ((0, 1, 2), (1, 2))), ((0,), (1, 2)))

    def test_great_meetings(self):
        great = ((SIXTY, SIXTY + 2), (0, SIXTY), (0, 10 * SIXTY - 1))
        self.assertEqual(
            asked(base_of, great),
            ((0, 10 * SIXTY - 1), (SIXTY, 10 * SIXTY - 1), (SIXTY + 2, 10 * SIXTY - 1)),
        )

    def test_drawn_against_all_sums(self):
        rng = random.Random(81)
        for _ in range(300):
            words = draw_words(rng)
            base = asked(base_of, words)
            self.assertTrue(byhand.plain(base))
            self.assertEqual(byhand.all_made(base), byhand.all_made(words))
            self.assertEqual(len(byhand.all_made(words)), 1 << len(base))
            self.assertEqual(base, tuple(sorted(set(base))))
            self.assertNotIn((), base)
            for one in base:
                self.assertEqual(one, tuple(sorted(set(one))))
                for other in base:
                    self.assertTrue(one == other or one[0] not in other)
            self.assertEqual(base_of(words=words), base)
            self.assertEqual(base_of(base), base)

    def test_same_in_any_order(self):
        rng = random.Random(82)
        for _ in range(100):
            words = list(draw_words(rng))
            base = base_of(tuple(words))
            rng.shuffle(words)
            self.assertEqual(base_of(tuple(words)), base)

    def test_other_numbers(self):
        rng = random.Random(83)
        for _ in range(50):
            words = draw_words(rng)
            far = tuple(tuple(m * 10 ** 50 + 7 for m in word) for word in words)
            base = tuple(tuple(m * 10 ** 50 + 7 for m in word) for word in base_of(words))
            self.assertEqual(base_of(far), base)

    def test_many_words(self):
        words = tuple((k, k + 1) for k in range(300))
        self.assertEqual(asked(base_of, words), tuple((k, 300) for k in range(300)))


class Makes(unittest.TestCase):
    def test_told(self):
        words = ((0, 1), (1, 2))
        self.assertIs(asked(makes, words, (0, 2)), True)
        self.assertIs(asked(makes, words, (0,)), False)
        self.assertIs(asked(makes, words, ()), True)
        self.assertIs(asked(makes, (), ()), True)
        self.assertIs(asked(makes, (), (0,)), False)
        self.assertIs(asked(makes, ((),), (0,)), False)
        self.assertIs(asked(makes, words, (9,)), False)
        self.assertIs(asked(makes, ((SIXTY,), (0, SIXTY)), (0,)), True)
        self.assertIs(makes(word=(0, 2), words=words), True)

    def test_twice_is_no_more(self):
        self.assertIs(asked(makes, ((0, 1), (0, 1)), (0, 1)), True)
        self.assertIs(asked(makes, ((0, 1), (0, 1)), (0,)), False)

    def test_drawn_against_all_sums(self):
        rng = random.Random(84)
        for _ in range(150):
            words = draw_words(rng)
            made = byhand.all_made(words)
            for bits in range(1 << 6):
                self.assertIs(asked(makes, words, byhand.word(bits)), bits in made)
