import random
import unittest

from metbefore.fatechecker import lets_fate
from metbefore.fates import fate_paper
from tests import byhand
from tests.byhand import asked, refused

ALL = ("al", "bo", "cy")
HISTORY = (4, ALL, (
    ("meet", ("al", "bo")),
    ("meet", ("bo", "cy")),
    ("meet", ("al",)),
    ("fold", "bo", (0,), (1,)),
    ("say", "bo", (0, 1)),
    ("drop", "cy", (1,)),
    ("drop", "al", (2,)),
    ("drop", "al", (0,)),
))


def words_at(books, lot):
    """The words of all places."""
    return (*books[-1][3], books[-1][4], byhand.had(books, lot))


LOSING = ("meet", "meet", "fold", "drop", "drop", "say")


class FatePaper(unittest.TestCase):
    def check(self, history, books, lot, word):
        paper = asked(fate_paper, history, lot, word)
        self.assertTrue(byhand.plain(paper))
        kind, told = paper
        standing = words_at(books, lot)
        made = byhand.all_made([one for words in standing for one in words])
        self.assertEqual(kind, "there" if byhand.number(word) in made else "lost")
        if kind == "there":
            self.assertEqual(list(told), sorted({*told}))
            self.assertTrue(all(one in standing[place] for place, one in told))
            self.assertEqual(byhand.xor([one for _, one in told]), byhand.number(word))
        else:
            self.assertEqual(list(told), sorted({*told}))
            self.assertFalse(any(len({*told} & {*one}) % 2 for words in standing for one in words))
            self.assertEqual(len({*told} & {*word}) % 2, 1)
        self.assertEqual(asked(lets_fate, history, lot, word, paper), kind)
        return paper

    def test_told(self):
        books = [(4, ALL, (), ((),) * 3, ())]
        for deed in HISTORY[2]:
            books.append(byhand.behind(books[-1], deed))
        self.assertEqual(self.check(HISTORY, books, (), ()), ("there", ()))
        self.assertIn(self.check(HISTORY, books, (), (0, 1)), (("there", ((1, (0, 1)),)), ("there", ((3, (0, 1)),))))
        self.assertEqual(self.check(HISTORY, books, (), (0,))[0], "lost")
        self.assertEqual(self.check(HISTORY, books, (), (2,)), ("lost", (2,)))
        self.assertEqual(self.check(HISTORY, books, (("al", 7),), (0,)), ("there", ((4, (0,)),)))
        self.assertEqual(self.check(HISTORY, books, (("al", 8),), (0,))[0], "lost")
        self.assertEqual(self.check(HISTORY, books, (("al", 0),), (2,)), ("there", ((4, (2,)),)))
        self.assertEqual(self.check(HISTORY, books, (("cy", 0),), (0,))[0], "there")
        self.assertEqual(self.check(HISTORY, books, (("cy", 6),), (1,))[0], "lost")
        self.assertEqual(fate_paper(word=(2,), lot=(), history=HISTORY), ("lost", (2,)))

    def test_no_meeting(self):
        for word, number in (((3,), 3), ((0, 3, 9), 3), ((10 ** 59,), 10 ** 59), ((0, 1, 2, 4, 5), 4)):
            self.assertEqual(refused(fate_paper, HISTORY, (), word), ("NoMeeting", number))
        self.assertEqual(refused(fate_paper, (1, ALL, ()), (), (0,)), ("NoMeeting", 0))
        self.assertEqual(asked(fate_paper, (1, ALL, ()), (), ()), ("there", ()))

    def test_drawn(self):
        rng = random.Random(331)
        kinds = {"there": 0, "lost": 0}
        for _ in range(200):
            history, books = byhand.draw_history(rng, kinds=rng.choice(((None,), LOSING)))
            lot = byhand.draw_lot(rng, history)
            for _ in range(4):
                word = byhand.word(rng.randrange(1 << len(books[-1][2])))
                kinds[self.check(history, books, lot, word)[0]] += 1
        self.assertGreater(min(kinds.values()), 100)

    def test_lost_for_good(self):
        rng = random.Random(332)
        lost = 0
        for _ in range(400):
            history, books = byhand.draw_history(rng, most=12, kinds=LOSING)
            lot = byhand.draw_lot(rng, history)
            word = byhand.word(rng.randrange(1 << len(books[-1][2])))
            if fate_paper(history, lot, word)[0] == "there":
                continue
            lost += 1
            now = books[-1]
            for _ in range(8):
                deed = byhand.draw_deed(rng, now)
                if deed:
                    now = byhand.behind(now, deed)
                    history = (*history[:2], (*history[2], deed))
                    self.assertEqual(fate_paper(history, lot, word)[0], "lost")
            self.assertNotIn(byhand.number(word), byhand.made_by(now, now[1]))
        self.assertGreater(lost, 40)
