import random
import unittest

from metbefore.bases import base_of
from metbefore.errors import NoMeeting
from metbefore.knownchecker import lets_known
from metbefore.knownpapers import known_paper
from metbefore.making import all_made
from metbefore.ranks import rank_beyond, rank_of
from metbefore.wordsums import sum_of
from metbefore.wordtables import is_table, turned_by
from tests import byhand
from tests.byhand import asked, refused

SIXTY = 10 ** 60 - 1


def draw_table(rng, many=6):
    """A table of the first meetings: to one another, to others, to great ones."""
    newer = rng.choice((range(many), range(2 * many), range(SIXTY - 2 * many, SIXTY)))
    return tuple(zip(range(many), rng.sample(newer, many)))


class IsTable(unittest.TestCase):
    def test_tables(self):
        for thing in (
            (), ((0, 0),), ((0, 1), (1, 0)), ((0, 5), (3, 4), (4, 0)), ((SIXTY, 0),), ((0, SIXTY), (SIXTY, 1)),
            ((1, 1), (2, 2)), ((7, 3), (8, 2), (9, 1)),
        ):
            self.assertIs(asked(is_table, thing), True, thing)
        self.assertIs(is_table(thing=((0, 1),)), True)

    def test_others(self):
        for thing in (
            ((1, 0), (0, 1)), ((0, 1), (0, 2)), ((0, 1), (0, 1)), ((0, 1), (2, 1)), ((0, 2), (1, 2), (2, 0)),
            [], [(0, 1)], ([0, 1],), ((0,),), ((0, 1, 2),), ((),), (0, 1), ((True, 2),), ((0, True),), ((False, 1),),
            ((0, False),), ((-1, 0),), ((0, -1),), (("0", 1),), ((0, "1"),), ((0, None),), (((0,), 1),), ((0, (1,)),),
            None, True, False, 0, 1, "", "()", {}, ((0, 1), None), ((0, 1), ()), (None, (0, 1)),
            ((0, 5), (1, 6), (2, 5)),
        ):
            self.assertIs(asked(is_table, thing), False, thing)

    def test_drawn(self):
        rng = random.Random(311)
        seen = {True: 0, False: 0}
        for _ in range(900):
            thing = byhand.spoilt(rng, draw_table(rng, rng.randint(1, 4)))
            formed = type(thing) is tuple and all(
                type(pair) is tuple and len(pair) == 2 and all(type(m) is int and m >= 0 for m in pair)
                for pair in thing
            )
            elders = [pair[0] for pair in thing] if formed else None
            by_hand = formed and elders == sorted({*elders}) and len({pair[1] for pair in thing}) == len(thing)
            self.assertIs(asked(is_table, thing), by_hand, thing)
            seen[by_hand] += 1
        self.assertGreater(min(seen.values()), 100)
        for _ in range(500):
            self.assertIs(type(asked(is_table, byhand.draw_thing(rng))), bool)


class TurnedBy(unittest.TestCase):
    def test_told(self):
        table = ((0, 1), (1, 0), (2, SIXTY), (SIXTY, 2))
        self.assertEqual(asked(turned_by, ((0,), (0, 1), (0, 2), ()), table), ((1,), (0, 1), (1, SIXTY), ()))
        self.assertEqual(asked(turned_by, ((SIXTY,), (2, SIXTY)), table), ((2,), (2, SIXTY)))
        self.assertEqual(asked(turned_by, ((1, 3),), ((1, 9), (3, 4))), ((4, 9),))
        self.assertEqual(turned_by(table=table, words=((0,),)), ((1,),))

    def test_in_their_order_as_often(self):
        self.assertEqual(asked(turned_by, ((1,), (0,), (1,), ()), ((0, 7), (1, 5))), ((5,), (7,), (5,), ()))

    def test_nothing(self):
        self.assertEqual(asked(turned_by, (), ()), ())
        self.assertEqual(asked(turned_by, ((), ()), ()), ((), ()))
        self.assertEqual(asked(turned_by, (), ((0, 1),)), ())

    def test_no_meeting(self):
        table = ((0, 4), (2, 3))
        for words, number in (
            (((1,),), 1), (((0, 1),), 1), (((0,), (3, 9), (1,)), 3), (((0, 2), (4,)), 4), (((0, 5, 7), (1,)), 5),
            (((0, 2, SIXTY), (1,)), SIXTY), (((), (3,)), 3), (((0,), (0,), (0, 6), (6,)), 6),
        ):
            self.assertEqual(refused(turned_by, words, table), ("NoMeeting", number))
        self.assertEqual(refused(turned_by, ((7,),), ()), ("NoMeeting", 7))
        with self.assertRaises(NoMeeting):
            turned_by(((4,),), table)

    def test_drawn(self):
        rng = random.Random(312)
        moved = 0
        for _ in range(250):
            words, word = byhand.draw_words(rng), byhand.word(rng.randrange(64))
            table = draw_table(rng)
            back = tuple(sorted((newer, elder) for elder, newer in table))
            self.assertIs(is_table(table), True)
            self.assertIs(is_table(back), True)
            turned = asked(turned_by, words, table)
            other = turned_by((word,), table)[0]
            newer = dict(table)
            self.assertEqual(turned, tuple(tuple(sorted(newer[m] for m in one)) for one in words))
            self.assertTrue(byhand.plain(turned))
            self.assertEqual(turned_by(turned, back), words)
            self.assertEqual(turned_by((sum_of(words),), table), (sum_of(turned),))
            self.assertEqual(rank_of(turned), rank_of(words))
            self.assertEqual(rank_beyond(turned[:3], turned[3:]), rank_beyond(words[:3], words[3:]))
            self.assertEqual(sorted(turned_by(all_made(words), table)), sorted(all_made(turned)))
            self.check_papers(words, word, turned, other, table, back)
            moved += turned_by(base_of(words), table) != base_of(turned)
        self.assertGreater(moved, 20)

    def check_papers(self, words, word, turned, other, table, back):
        """A paper of what was turned is one of what was not, and the other way about."""
        kind, told = known_paper(words, word)
        there = (kind, told) if kind == "known" else (kind, turned_by((told,), table)[0])
        self.assertEqual(lets_known(turned, other, there), kind)
        paper = known_paper(turned, other)
        self.assertEqual(paper[0], kind)
        if kind == "free":
            paper = kind, turned_by((paper[1],), back)[0]
        self.assertEqual(lets_known(words, word, paper), kind)
