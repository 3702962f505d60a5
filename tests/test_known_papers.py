import random
import unittest

from metbefore.knownchecker import lets_known
from metbefore.knownpapers import known_paper
from metbefore.wordsums import sign_of
from tests import byhand
from tests.byhand import asked, draw_words
from tests.test_ranks import fifteen, forty_four

SIXTY = 10 ** 59


class KnownPaper(unittest.TestCase):
    def check(self, words, word, kind):
        paper = asked(known_paper, words, word)
        self.assertTrue(byhand.plain(paper))
        self.assertEqual((type(paper), len(paper), paper[0]), (tuple, 2, kind))
        self.assertEqual(asked(lets_known, words, word, paper), kind)
        if kind == "known":
            places = paper[1]
            self.assertEqual(list(places), sorted({*places} & {*range(len(words))}))
            odd = [m for place in places for m in words[place]]
            self.assertEqual(tuple(sorted(m for m in {*odd} if odd.count(m) % 2)), word)
        else:
            turn = paper[1]
            self.assertEqual(turn, tuple(sorted({*turn})))
            self.assertFalse(any(len({*turn} & {*one}) % 2 for one in words))
            self.assertEqual(len({*turn} & {*word}) % 2, 1)
        return paper

    def test_known(self):
        self.assertEqual(self.check(((0, 1), (1, 2)), (0, 2), "known"), ("known", (0, 1)))
        self.assertEqual(self.check(((5,), (1, 2)), (1, 2), "known"), ("known", (1,)))
        self.assertEqual(self.check(((5,), (1,)), (), "known"), ("known", ()))
        self.assertEqual(self.check((), (), "known"), ("known", ()))
        self.check(((), (0,), (), (0,)), (0,), "known")
        self.check(((2, SIXTY), (SIXTY,), (0, 2)), (0,), "known")

    def test_made_in_several_ways(self):
        self.check(((0,), (1,), (0, 1), (0,), (0, 1)), (0, 1), "known")
        self.check(((0, 1), (1, 2), (0, 2), (2, 3), (0, 3)), (0, 2), "known")

    def test_free(self):
        self.assertEqual(self.check((), (4,), "free"), ("free", (4,)))
        self.check(((0, 1), (1, 2)), (0,), "free")
        self.check(((), ()), (0, SIXTY), "free")
        self.check(((0, 1), (1, 2), (0, 2)), (0, 1, 2), "free")
        self.check(((SIXTY,), (0, SIXTY)), (3, SIXTY), "free")

    def test_many_words(self):
        rng = random.Random(320)
        self.check(forty_four(), (0, 3, 7, 11), "known")
        self.check(forty_four(), (0, 12), "free")
        made = byhand.all_made(fifteen())
        for bits in [rng.randrange(1024) for _ in range(40)] + sorted(made)[:8]:
            self.check(fifteen(), byhand.word(bits), "known" if bits in made else "free")

    def test_by_names(self):
        self.assertEqual(known_paper(word=(1,), words=((1,),)), ("known", (0,)))

    def test_drawn(self):
        rng = random.Random(321)
        for _ in range(300):
            words, word = draw_words(rng), byhand.word(rng.randrange(64))
            known = byhand.number(word) in byhand.all_made(words)
            self.check(words, word, "known" if known else "free")

    def test_signs_behind_a_turn(self):
        rng = random.Random(322)
        for _ in range(100):
            words, word = draw_words(rng), byhand.word(rng.randrange(64))
            kind, turn = known_paper(words, word)
            if kind == "free":
                signs = [rng.randint(0, 1) for _ in range(6)]
                turned = [sign ^ (m in turn) for m, sign in enumerate(signs)]
                for bits in byhand.all_made(words):
                    made = byhand.word(bits)
                    self.assertEqual(sign_of(made, signs), sign_of(made, turned))
                self.assertNotEqual(sign_of(word, signs), sign_of(word, turned))
