import random
import unittest

from metbefore.errors import NoPaper
from metbefore.knownchecker import lets_known
from tests import byhand
from tests.byhand import asked, refused

WORDS = ((0, 1), (1, 2), (), (0, 1))
SIXTY = 10 ** 59


def by_hand(words, word, thing):
    """What is told of a paper that has its form."""
    kind, told = thing
    if kind == "known":
        for k, place in enumerate(told):
            if place not in range(len(words)) or place in told[:k] or place < max(told[:k], default=0):
                return "NoPaper", "place", k
        bits = 0
        for place in told:
            bits ^= byhand.number(words[place])
        return kind if bits == byhand.number(word) else ("NoPaper", "sum", -1)
    for k, one in enumerate(words):
        if len({*one} & {*told}) % 2:
            return "NoPaper", "even", k
    return kind if len({*word} & {*told}) % 2 else ("NoPaper", "odd", -1)


class LetsKnown(unittest.TestCase):
    def test_let_by(self):
        self.assertEqual(asked(lets_known, WORDS, (0, 2), ("known", (0, 1))), "known")
        self.assertEqual(asked(lets_known, WORDS, (0, 2), ("known", (1, 2, 3))), "known")
        self.assertEqual(asked(lets_known, WORDS, (), ("known", ())), "known")
        self.assertEqual(asked(lets_known, WORDS, (), ("known", (0, 3))), "known")
        self.assertEqual(asked(lets_known, (), (), ("known", ())), "known")
        self.assertEqual(asked(lets_known, WORDS, (0,), ("free", (0, 1, 2))), "free")
        self.assertEqual(asked(lets_known, WORDS, (0, 5), ("free", (5,))), "free")
        self.assertEqual(asked(lets_known, (), (SIXTY,), ("free", (0, SIXTY))), "free")
        self.assertEqual(lets_known(thing=("known", (0,)), word=(0, 1), words=WORDS), "known")

    def test_shape(self):
        for thing in (
            None, 0, True, "known", "", (), [], ("known",), ("free",), ("known", (), ()), ["known", (0,)],
            ["free", (0,)], ("known", [0]), ("known", [0, 1]), ("known", 0), ("known", None), ("known", (True,)),
            ("known", (False, 1)), ("known", (-1,)), ("known", ((0,),)), ("known", ("0",)), ("free", [0]),
            ("free", (1, 0)), ("free", (0, 0)), ("free", (True,)), ("free", (-1,)), ("free", ((0,),)), ("free", 0),
            ("Known", ()), ("none", ()), (("known",), ()), ("known\n", ()), (None, ()), (0, (0,)), ((), "known"),
            ("free", (0, 1), 2),
        ):
            self.assertEqual(refused(lets_known, WORDS, (0, 1), thing), ("NoPaper", "shape", -1), thing)

    def test_place(self):
        for places, k in (
            ((4,), 0), ((0, 4), 1), ((1, 0), 1), ((0, 0), 1), ((0, 1, 1), 2), ((SIXTY,), 0), ((0, 3, 1, 9), 2),
            ((9, 0), 0), ((3, 2, 1), 1),
        ):
            self.assertEqual(refused(lets_known, WORDS, (0, 1), ("known", places)), ("NoPaper", "place", k))
        self.assertEqual(refused(lets_known, (), (), ("known", (0,))), ("NoPaper", "place", 0))

    def test_sum(self):
        for places in ((), (1,), (0, 1), (0, 3), (2,)):
            self.assertEqual(refused(lets_known, WORDS, (0, 1), ("known", places)), ("NoPaper", "sum", -1))

    def test_even(self):
        for turn, k in (((0,), 0), ((1,), 0), ((2,), 1), ((0, 1), 1), ((0, 2), 0)):
            self.assertEqual(refused(lets_known, WORDS, (0,), ("free", turn)), ("NoPaper", "even", k))

    def test_odd(self):
        for turn in ((), (5,), (SIXTY,)):
            self.assertEqual(refused(lets_known, WORDS, (0,), ("free", turn)), ("NoPaper", "odd", -1))
        self.assertEqual(refused(lets_known, WORDS, (0, 2), ("free", (0, 1, 2))), ("NoPaper", "odd", -1))

    def test_first_told_goes(self):
        self.assertEqual(refused(lets_known, WORDS, (7,), ("known", (9,))), ("NoPaper", "place", 0))
        self.assertEqual(refused(lets_known, WORDS, (7,), ("free", (0,))), ("NoPaper", "even", 0))
        self.assertEqual(refused(lets_known, WORDS, (7,), ("known", (9, True))), ("NoPaper", "shape", -1))

    def test_drawn(self):
        rng = random.Random(91)
        seen = {}
        for _ in range(1200):
            words = tuple(byhand.word(rng.randrange(16)) for _ in range(rng.randint(0, 5)))
            word = byhand.word(rng.randrange(16))
            places = sorted(rng.sample(range(len(words)), rng.randint(0, len(words))))
            if rng.random() < 0.3:
                places = [rng.randint(0, 6) for _ in range(rng.randint(0, 4))]
            thing = rng.choice((("known", tuple(places)), ("free", byhand.word(rng.randrange(64)))))
            told = refused(lets_known, words, word, thing)
            self.assertEqual(told, by_hand(words, word, thing))
            seen[told if isinstance(told, str) else told[1]] = True
        self.assertEqual(sorted(seen), ["even", "free", "known", "odd", "place", "sum"])

    def test_drawn_just_one_kind(self):
        rng = random.Random(92)
        for _ in range(150):
            words = tuple(byhand.word(rng.randrange(16)) for _ in range(rng.randint(0, 4)))
            word = byhand.word(rng.randrange(16))
            papers = [("free", byhand.word(bits)) for bits in range(16)]
            for bits in range(1 << len(words)):
                papers.append(("known", tuple(k for k in range(len(words)) if bits >> k & 1)))
            told = {refused(lets_known, words, word, paper) for paper in papers}
            kinds = told & {"known", "free"}
            known = byhand.number(word) in byhand.all_made(words)
            self.assertEqual(kinds, {"known"} if known else {"free"})

    def test_drawn_spoilt(self):
        rng = random.Random(93)
        good = (("known", (0, 1)), ("known", (1, 2, 3)), ("free", (0, 1, 2)))
        for _ in range(600):
            thing = byhand.spoilt(rng, rng.choice(good))
            told = refused(lets_known, WORDS, (0, 2), thing)
            if told != ("NoPaper", "shape", -1):
                self.assertIs(type(thing), tuple)
                self.assertTrue(byhand.plain(thing))
                self.assertEqual(told, by_hand(WORDS, (0, 2), thing))
        for _ in range(600):
            told = refused(lets_known, WORDS, (0, 2), byhand.draw_thing(rng))
            self.assertIn(type(told), (str, tuple))

    def test_refused_by_the_class(self):
        with self.assertRaises(NoPaper) as caught:
            lets_known(WORDS, (0, 1), ("known", (4,)))
        self.assertEqual((caught.exception.word, caught.exception.at), ("place", 0))
