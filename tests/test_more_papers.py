import unittest

from metbefore.morepapers import more_paper
from tests import byhand
from tests.byhand import asked

ALL = ("al", "bo", "cy")
BOOK = (2, ALL, (ALL, ALL), (((0,),), ((0,), (1,)), ((1,),)), ())


class MorePaper(unittest.TestCase):
    def check(self, book, door, guest, than, paper):
        self.assertTrue(byhand.plain(paper))
        word, thing = paper
        if word == "plan":
            self.assertGreater(byhand.least(book, door, guest)[0], than)
            now = book
            for hand, said in thing:
                self.assertNotIn(hand, (door, guest))
                self.assertIn(byhand.number(said), byhand.made_by(now, (hand,)) - {0})
                self.assertNotIn(said, now[4])
                now = byhand.behind_say(now, said)
            self.assertGreater(byhand.free(now, door, guest), than)
        else:
            self.assertEqual(word, "side")
            self.assertIn(thing, byhand.sides(book, door, guest))
            self.assertLessEqual(byhand.held(book, thing), than)

    def test_than_left_out_is_nought(self):
        self.assertEqual(asked(more_paper, BOOK, "al", "cy"), ("plan", (("bo", (0, 1)),)))
        void = (*BOOK[:3], ((), ((0,),), ()), ())
        self.assertEqual(asked(more_paper, void, "al", "cy")[0], "side")

    def test_one_is_not_more_than_one(self):
        paper = asked(more_paper, BOOK, "al", "cy", than=1)
        self.assertEqual(paper[0], "side")
        self.check(BOOK, "al", "cy", 1, paper)

    def test_great_than(self):
        for than in (7, 10 ** 59):
            self.check(BOOK, "cy", "al", than, asked(more_paper, BOOK, "cy", "al", than=than))
            self.assertEqual(more_paper(BOOK, "cy", "al", than=than)[0], "side")

    def test_two_hands_alone(self):
        book = (2, ("al", "bo"), (ALL[:2],) * 2, (((0,), (1,)), ((0,), (1,))), ())
        self.assertEqual(asked(more_paper, book, "bo", "al", than=1), ("plan", ()))
        self.assertEqual(asked(more_paper, book, "bo", "al", than=2), ("side", ("bo",)))

    def test_than_by_name_alone(self):
        with self.assertRaises(TypeError):
            more_paper(BOOK, "al", "cy", 1)

    def test_drawn(self):
        words = {"plan": 0, "side": 0}
        for book, door, guest in byhand.drawn(41, 80):
            for than in range(4):
                paper = asked(more_paper, book, door, guest, than=than)
                self.check(book, door, guest, than, paper)
                words[paper[0]] += 1
                self.check(book, door, guest, than, more_paper(than=than, guest=guest, door=door, book=book))
        self.assertGreater(min(words.values()), 20)
