import random
import unittest

from metbefore.bookdeeds import done
from metbefore.easings import easing_of
from metbefore.harms import harmless
from metbefore.leastsides import least_sides
from tests import byhand
from tests.byhand import asked, rows

ALL = ("al", "bo", "cy")


def eased(book, helper, easing):
    """The book behind an easing, whose deeds can be done."""
    assert byhand.plain(easing) and type(easing) is tuple
    if easing[0] == "say":
        _, said, dropped = easing
        deeds = (("say", helper, said), ("drop", helper, dropped))
    else:
        word, dropped = easing
        assert word == "drop", easing
        deeds = (("drop", helper, dropped),)
    for deed in deeds:
        assert byhand.barred(book, deed) is None, (book, deed)
        book = byhand.behind(book, deed)
    return book


class EasingOf(unittest.TestCase):
    def check(self, book, door, guest, helper):
        """An easing that holds by going through all sides; the book behind it."""
        easing = asked(easing_of, book, door, guest, helper)
        behind = eased(book, helper, easing)
        self.assertGreaterEqual(byhand.least(behind, door, guest)[0], byhand.least(book, door, guest)[0])
        self.assertEqual(len(byhand.purse_of(behind, helper)), len(byhand.purse_of(book, helper)) - 1)
        return behind

    def test_none_of_a_void_purse(self):
        self.assertIsNone(asked(easing_of, rows(ALL, (((0,),), (), ((0,),))), "al", "cy", "bo"))
        self.assertIsNone(asked(easing_of, rows(ALL, ((), (), ()), ((0,),)), "al", "cy", "bo"))

    def test_sum_alone(self):
        book = rows(ALL, (((0,),), ((0,), (1,)), ((1,),)))
        easing = asked(easing_of, book, "al", "cy", "bo")
        self.assertEqual(easing[:2], ("say", (0, 1)))
        self.assertIn(easing[2], ((0,), (1,)))
        self.check(self.check(book, "al", "cy", "bo"), "al", "cy", "bo")

    def test_drop_alone(self):
        book = rows(ALL, (((0,),), ((0,),), ((0,),)))
        self.assertEqual(asked(easing_of, book, "al", "cy", "bo"), ("drop", (0,)))
        book = rows(ALL, (((0,),), ((0, 1),), ((0,),)), ((0,), (1,)))
        self.assertEqual(asked(easing_of, book, "al", "cy", "bo"), ("drop", (0, 1)))

    def test_dropped_word_is_one_of_the_sum(self):
        # The one harmless word is the sum of (1) and (2): (0) can't go for it.
        book = rows(ALL, (((0,), (1,)), ((0,), (1,), (2,)), ((0,), (2,))))
        self.assertEqual(byhand.least(book, "al", "cy")[0], 2)
        self.check(self.check(self.check(book, "al", "cy", "bo"), "al", "cy", "bo"), "al", "cy", "bo")

    def test_dropped_word_is_one_of_the_very_sum(self):
        # (0, 1) is harmless, and (2, 3): but behind one of them no word of the other one can go.
        book = rows(ALL, (((0,), (2,)), ((0,), (1,), (2,), (3,)), ((1,), (3,))))
        self.assertIn((0, 1), harmless(book, "al", "cy", "bo"))
        self.assertIn((2, 3), harmless(book, "al", "cy", "bo"))
        for _ in range(4):
            book = self.check(book, "al", "cy", "bo")
        self.assertEqual(byhand.free(book, "al", "cy"), 2)

    def test_words_that_hang_on_each_other(self):
        self.check(rows(ALL, (((0,),), ((0,), (0, 1), (1,)), ((1,),))), "al", "cy", "bo")
        self.check(rows(ALL, (((0,),), ((0,), (0, 1), (1,)), ((1,),)), ((0, 1),)), "al", "cy", "bo")

    def test_by_names(self):
        book = rows(ALL, (((0,),), ((0,),), ((0,),)))
        self.assertEqual(easing_of(helper="bo", guest="cy", door="al", book=book), ("drop", (0,)))

    def test_drawn(self):
        words = {}
        for book, door, guest in byhand.drawn(271, 150, most_hands=6, most_meetings=9):
            for helper in book[1]:
                if helper not in (door, guest):
                    if byhand.purse_of(book, helper):
                        self.check(book, door, guest, helper)
                        word = easing_of(book, door, guest, helper)[0]
                        words[word] = words.get(word, 0) + 1
                    else:
                        self.assertIsNone(asked(easing_of, book, door, guest, helper))
        self.assertGreater(min(words.values()), 30)
        self.assertEqual(sorted(words), ["drop", "say"])

    def test_eased_on_and_on(self):
        rng = random.Random(272)
        raised = 0
        for book, door, guest in byhand.drawn(273, 200, most_hands=6, most_meetings=9):
            least = byhand.least(book, door, guest)[0]
            raised += byhand.free(book, door, guest) < least
            helpers = [hand for hand in book[1] if hand not in (door, guest)]
            now = book
            while helpers:
                helper = rng.choice(helpers)
                easing = asked(easing_of, now, door, guest, helper)
                if easing is None:
                    self.assertEqual(byhand.purse_of(now, helper), ())
                    helpers.remove(helper)
                else:
                    now = eased(now, helper, easing)
                    self.assertGreaterEqual(least_sides(now, door, guest)[0], least)
            self.assertEqual(byhand.free(now, door, guest), least)
        self.assertGreater(raised, 10)

    def test_no_harmless_word_no_harm_in_the_whole_purse(self):
        some = 0
        for book, door, guest in byhand.drawn(274, 150, most_hands=5, most_meetings=7):
            for helper in book[1]:
                purse = byhand.purse_of(book, helper)
                if helper not in (door, guest) and purse and not harmless(book, door, guest, helper):
                    now = book
                    for word in purse:
                        now = done(now, ("drop", helper, word))
                    self.assertEqual(least_sides(now, door, guest)[0], least_sides(book, door, guest)[0])
                    some += 1
        self.assertGreater(some, 20)
