import random
import unittest

from metbefore.errors import NoPaper
from metbefore.fatechecker import lets_fate
from metbefore.fates import fate_paper
from tests import byhand
from tests.byhand import asked, refused
from tests.test_fates import words_at

ALL = ("al", "bo")
# Behind it al has (0), bo has (0, 1) and (3), the board has (3); (2) is with nobody; al had (0), (2), (3).
HISTORY = (4, ALL, (
    ("meet", ALL), ("meet", ("bo",)), ("meet", ("al",)), ("fold", "bo", (0,), (1,)), ("drop", "al", (2,)),
    ("meet", ALL), ("say", "bo", (3,)), ("drop", "al", (3,)),
))
LOT = (("al", 3),)


def by_hand(standing, many, word, thing):
    """What is told of a thing that has a fate paper's form."""
    beyond = [meeting for meeting in word if meeting >= many]
    if beyond:
        return "NoMeeting", beyond[0]
    kind, told = thing
    if kind == "there":
        for k, (place, one) in enumerate(told):
            above = k == 0 or told[k] > told[k - 1]
            if not above or place not in range(len(standing)) or one not in standing[place]:
                return "NoPaper", "part", k
        return kind if byhand.xor([one for _, one in told]) == byhand.number(word) else ("NoPaper", "sum", -1)
    for place, words in enumerate(standing):
        for k, one in enumerate(words):
            if len({*one} & {*told}) % 2:
                return "NoPaper", "even", (place, k)
    return kind if len({*word} & {*told}) % 2 else ("NoPaper", "odd", -1)


class LetsFate(unittest.TestCase):
    def told(self, word, thing, lot=LOT):
        return refused(lets_fate, HISTORY, lot, word, thing)

    def test_let_by(self):
        self.assertEqual(self.told((0, 1), ("there", ((1, (0, 1)),))), "there")
        self.assertEqual(self.told((1,), ("there", ((0, (0,)), (1, (0, 1))))), "there")
        self.assertEqual(self.told((1,), ("there", ((1, (0, 1)), (3, (0,))))), "there")
        self.assertEqual(self.told((3,), ("there", ((1, (3,)), (2, (3,)), (3, (3,))))), "there")
        self.assertEqual(self.told((3,), ("there", ((2, (3,)),))), "there")
        self.assertEqual(self.told((2,), ("there", ((3, (2,)),))), "there")
        self.assertEqual(self.told((), ("there", ())), "there")
        self.assertEqual(self.told((), ("there", ((0, (0,)), (3, (0,))))), "there")
        self.assertEqual(self.told((2,), ("lost", (2,)), ()), "lost")
        self.assertEqual(self.told((0, 2), ("lost", (2, 10 ** 59)), ()), "lost")
        told = lets_fate(thing=("lost", (2,)), word=(2,), lot=(), history=HISTORY)
        self.assertEqual(told, "lost")

    def test_no_meeting_ahead_of_all(self):
        for thing in (None, ("there", ()), ("there", ((9, (9,)),)), ("lost", (4,)), ("lost", (0,)), ("lost", [])):
            self.assertEqual(self.told((4,), thing), ("NoMeeting", 4))
            self.assertEqual(self.told((0, 3, 7, 8), thing), ("NoMeeting", 7))

    def test_shape(self):
        for thing in (
            None, 0, True, "there", "lost", (), [], ("there",), ("lost",), ("there", (), ()), ["there", ()],
            ["lost", (2,)], ("there", []), ("there", 0), ("there", None), ("there", (0,)), ("there", ((0,),)),
            ("there", ((0, (0,), 1),)), ("there", ([0, (0,)],)), ("there", ((0, [0]),)), ("there", ((True, (0,)),)),
            ("there", ((-1, (0,)),)), ("there", (("0", (0,)),)), ("there", ((0, (1, 0)),)), ("there", ((0, (True,)),)),
            ("there", ((0, 0),)), ("there", (0, (0,))), ("lost", [2]), ("lost", 2), ("lost", (2, 1)), ("lost", (2, 2)),
            ("lost", (False,)), ("lost", (-2,)), ("lost", ((2,),)), ("known", ()), ("free", (2,)), ("There", ()),
            ("there\n", ()), ((), "there"), (None, ()), ("there", (((0,), (0,)),)), ("there", ((0, (0,)), None)),
        ):
            self.assertEqual(self.told((2,), thing), ("NoPaper", "shape", -1), thing)

    def test_part(self):
        al, bo, board, had = (0, (0,)), (1, (0, 1)), (2, (3,)), (3, (2,))
        for parts, k in (
            ((al, al), 1), ((bo, al), 1), ((al, board, bo), 2), ((had, had), 1), ((0, (0, 1)), 0), ((1, (0,)), 0),
            ((2, (2,)), 0), ((3, (0, 1)), 0), ((4, (0,)), 0), ((10 ** 59, (0,)), 0), ((0, ()), 0), ((0, (9,)), 0),
            ((al, (4, (3,))), 1), ((al, bo, (2, (0,))), 2), (((1, (3,)), bo), 1), ((0, (10 ** 59,)), 0),
        ):
            parts = parts if isinstance(parts[0], tuple) else (parts,)
            self.assertEqual(self.told((0,), ("there", parts)), ("NoPaper", "part", k), parts)
        self.assertEqual(self.told((2,), ("there", ((3, (2,)),)), ()), ("NoPaper", "part", 0))

    def test_sum(self):
        for parts in ((), ((0, (0,)),), ((1, (0, 1)), (1, (3,))), ((0, (0,)), (3, (0,)))):
            self.assertEqual(self.told((0, 1), ("there", parts)), ("NoPaper", "sum", -1))

    def test_even(self):
        for turn, at in (
            ((0,), (0, 0)), ((1,), (1, 0)), ((3,), (1, 1)), ((0, 1, 3), (0, 0)), ((2,), (3, 1)), ((2, 3), (1, 1)),
            ((2, 10 ** 59), (3, 1)),
        ):
            self.assertEqual(self.told((2,), ("lost", turn)), ("NoPaper", "even", at), turn)
        history = (4, ALL, (("meet", ALL), ("say", "al", (0,)), ("drop", "al", (0,)), ("drop", "bo", (0,))))
        self.assertEqual(refused(lets_fate, history, (), (0,), ("lost", (0,))), ("NoPaper", "even", (2, 0)))

    def test_odd(self):
        for turn in ((), (9,), (10 ** 59,)):
            self.assertEqual(self.told((2,), ("lost", turn)), ("NoPaper", "odd", -1))
        self.assertEqual(self.told((0, 1), ("lost", (2,)), ()), ("NoPaper", "odd", -1))

    def test_drawn(self):
        rng = random.Random(341)
        seen = {}
        for _ in range(900):
            history, books = byhand.draw_history(rng, most=10, most_hands=4)
            lot = byhand.draw_lot(rng, history)
            standing = words_at(books, lot)
            many = len(books[-1][2])
            word = byhand.word(rng.randrange(1 << many + (rng.random() < 0.1)))
            pairs = [(place, one) for place, words in enumerate(standing) for one in words]
            parts = sorted(rng.sample(pairs, rng.randint(0, min(3, len(pairs)))))
            if rng.random() < 0.3:
                parts += [(rng.randint(0, len(standing)), rng.choice(((), (0,), *[one for _, one in pairs])))]
            if rng.random() < 0.3:
                word = byhand.word(byhand.xor([one for _, one in parts]))
            turn = byhand.word(rng.randrange(1 << many + 1))
            if all(meeting < many for meeting in word) and rng.random() < 0.3:
                kind, told = fate_paper(history, lot, word)
                parts, turn = (told, turn) if kind == "there" else (parts, told)
            thing = rng.choice((("there", tuple(parts)), ("lost", turn)))
            told = refused(lets_fate, history, lot, word, thing)
            self.assertEqual(told, by_hand(standing, many, word, thing))
            seen[told if isinstance(told, str) else told[-2]] = True
        self.assertEqual(sorted(seen), ["NoMeeting", "even", "lost", "odd", "part", "sum", "there"])

    def test_drawn_spoilt(self):
        rng = random.Random(342)
        standing = ((((0,),), ((0, 1), (3,)), ((3,),), ((0,), (2,), (3,))))
        good = (("there", ((0, (0,)), (1, (0, 1)))), ("there", ((1, (0, 1)), (3, (0,)))), ("lost", (2, 5)))
        for _ in range(900):
            thing = byhand.spoilt(rng, rng.choice(good))
            told = self.told((1,), thing)
            if told == ("NoPaper", "shape", -1):
                self.assertFalse(self.is_formed(thing), thing)
            else:
                self.assertTrue(self.is_formed(thing), thing)
                self.assertEqual(told, by_hand(standing, 4, (1,), thing))
        for _ in range(500):
            self.assertEqual(self.told((1,), byhand.draw_thing(rng))[1], "shape")

    def is_formed(self, thing):
        if type(thing) is not tuple or len(thing) != 2 or not byhand.plain(thing) or type(thing[1]) is not tuple:
            return False
        if thing[0] == "lost":
            return is_word(thing[1])
        return thing[0] == "there" and all(
            type(part) is tuple and len(part) == 2 and type(part[0]) is int and part[0] >= 0 and is_word(part[1])
            for part in thing[1]
        )

    def test_just_one_kind(self):
        rng = random.Random(343)
        for _ in range(60):
            history, books = byhand.draw_history(rng, most=5, most_hands=3)
            lot = byhand.draw_lot(rng, history)
            standing = words_at(books, lot)
            pairs = [(place, one) for place, words in enumerate(standing) for one in words][:8]
            if sum(map(len, standing)) > 8:
                continue
            many = len(books[-1][2])
            word = byhand.word(rng.randrange(1 << many))
            papers = [("lost", byhand.word(bits)) for bits in range(1 << many)]
            for bits in range(1 << len(pairs)):
                papers.append(("there", tuple(part for k, part in enumerate(pairs) if bits >> k & 1)))
            told = {refused(lets_fate, history, lot, word, paper) for paper in papers}
            self.assertEqual(told & {"there", "lost"}, {fate_paper(history, lot, word)[0]})

    def test_refused_by_the_class(self):
        with self.assertRaises(NoPaper) as caught:
            asked(lets_fate, HISTORY, LOT, (2,), ("lost", (0,)))
        self.assertEqual((caught.exception.word, caught.exception.at), ("even", (0, 0)))


def is_word(thing):
    numbers = type(thing) is tuple and all(type(one) is int and one >= 0 for one in thing)
    return numbers and list(thing) == sorted({*thing})
