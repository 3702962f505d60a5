import unittest

from metbefore.harms import harmless
from tests import byhand
from tests.byhand import asked, rows

ALL = ("al", "bo", "cy")


def by_hand(book, door, guest, helper):
    """All harmless words, each tried."""
    fewest = byhand.least(book, door, guest)[0]
    told = []
    for bits in byhand.all_made(byhand.purse_of(book, helper)) - byhand.all_made(book[4]):
        if byhand.least(byhand.behind_say(book, byhand.word(bits)), door, guest)[0] >= fewest:
            told.append(byhand.word(bits))
    return tuple(sorted(told))


class Harmless(unittest.TestCase):
    def test_sum_alone(self):
        book = rows(ALL, (((0,),), ((0,), (1,)), ((1,),)))
        self.assertEqual(asked(harmless, book, "al", "cy", "bo"), ((0, 1),))
        self.assertEqual(asked(harmless, book, "cy", "al", "bo"), ((0, 1),))

    def test_none(self):
        book = rows(ALL, (((0,),), ((0,),), ((0,),)))
        self.assertEqual(asked(harmless, book, "al", "cy", "bo"), ())
        book = rows(ALL, (((0,), (1,)), ((0,), (1,)), ((0,), (1,))))
        self.assertEqual(asked(harmless, book, "al", "bo", "cy"), ())

    def test_what_nobody_has_harms_nobody(self):
        book = rows(ALL, ((), ((3,), (5,)), ()))
        self.assertEqual(asked(harmless, book, "al", "cy", "bo"), ((3,), (3, 5), (5,)))

    def test_void_purse(self):
        book = rows(ALL, (((0,),), (), ((0,),)), ((1,),))
        self.assertEqual(asked(harmless, book, "al", "cy", "bo"), ())

    def test_not_what_the_board_makes(self):
        book = rows(ALL, ((), ((0,), (1,), (2,)), ()), ((0, 1), (4,)))
        told = ((0,), (0, 1, 2), (0, 2), (1,), (1, 2), (2,))
        self.assertEqual(asked(harmless, book, "al", "cy", "bo"), told)

    def test_the_purse_alone(self):
        book = rows(ALL, ((), ((0,),), ()), ((4,),))
        self.assertEqual(asked(harmless, book, "al", "cy", "bo"), ((0,),))

    def test_sums_of_others_in_the_purse(self):
        book = rows(ALL, ((), ((0,), (0, 1), (1,)), ()))
        self.assertEqual(asked(harmless, book, "al", "cy", "bo"), ((0,), (0, 1), (1,)))

    def test_drawn_each_word_tried(self):
        some = none = 0
        for book, door, guest in byhand.drawn(21, 90, most_hands=6, most_meetings=9):
            for helper in book[1]:
                if helper not in (door, guest):
                    told = asked(harmless, book, door, guest, helper)
                    self.assertEqual(told, by_hand(book, door, guest, helper))
                    self.assertTrue(byhand.plain(told))
                    self.assertEqual(harmless(helper=helper, guest=guest, door=door, book=book), told)
                    some += told != ()
                    none += told == () and byhand.purse_of(book, helper) != ()
        self.assertGreater(some, 20)
        self.assertGreater(none, 20)
