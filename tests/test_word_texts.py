import random
import unittest

from metbefore.wordtexts import word_text, words_text
from tests import byhand
from tests.byhand import asked

SIXTY = 10 ** 60 - 1


class WordText(unittest.TestCase):
    def test_told(self):
        for word, text in (
            ((0, 3, 12), "0+3+12"), ((), "."), ((0,), "0"), ((7,), "7"), ((10,), "10"), ((9, 10, 100), "9+10+100"),
            ((SIXTY,), "9" * 60), ((0, 10 ** 59), "0+1" + "0" * 59),
        ):
            self.assertEqual(asked(word_text, word), text)
        self.assertEqual(word_text(word=(1, 2)), "1+2")

    def test_drawn(self):
        rng = random.Random(321)
        for _ in range(200):
            word = tuple(sorted({rng.randrange(rng.choice((5, 100, SIXTY))) for _ in range(rng.randint(1, 6))}))
            text = asked(word_text, word)
            self.assertEqual(tuple(int(part) for part in text.split("+")), word)
            self.assertEqual(text, text.strip())
            self.assertIs(type(text), str)


class WordsText(unittest.TestCase):
    def test_told(self):
        for words, text in (
            (((0, 3), (), (12,)), "0+3,.,12"), ((), "-"), (((),), "."), (((), ()), ".,."), (((0,),), "0"),
            (((2,), (1,), (2,), (0, 1)), "2,1,2,0+1"), (((SIXTY,), ()), "9" * 60 + ",."),
        ):
            self.assertEqual(asked(words_text, words), text)
        self.assertEqual(words_text(words=((1, 2),)), "1+2")

    def test_drawn(self):
        rng = random.Random(322)
        for _ in range(200):
            words = byhand.draw_words(rng)
            text = asked(words_text, words)
            by_hand = ",".join("+".join(map(str, word)) or "." for word in words) or "-"
            self.assertEqual(text, by_hand)
            self.assertNotIn(" ", text)
