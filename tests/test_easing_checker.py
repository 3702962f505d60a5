import random
import unittest

from metbefore.easingchecker import lets_easing
from metbefore.easings import easing_of
from metbefore.errors import NoPaper
from tests import byhand
from tests.byhand import asked, refused, rows

ALL = ("al", "bo", "cy")
BOOK = rows(ALL, (((0,),), ((0,), (1,)), ((1,),)))
SAID = rows(ALL, (((0,),), ((0,), (1,)), ((1,),)), ((0, 1), (5,)))


def by_hand(book, door, guest, helper, thing):
    """What is told of a thing that has an easing's form, by doing it."""
    now = book
    if thing[0] == "say":
        why = byhand.barred(book, ("say", helper, thing[1]))
        if why:
            return "NoPaper", why, -1
        now = byhand.behind(book, ("say", helper, thing[1]))
    if thing[-1] not in byhand.purse_of(book, helper):
        return "NoPaper", "drop", -1
    held = byhand.least(byhand.behind(now, ("drop", helper, thing[-1])), door, guest)[0]
    return held if held >= byhand.least(book, door, guest)[0] else ("NoPaper", "less", -1)


class LetsEasing(unittest.TestCase):
    def told(self, thing, book=BOOK):
        return refused(lets_easing, book, "al", "cy", "bo", thing)

    def test_let_by(self):
        self.assertEqual(self.told(("say", (0, 1), (0,))), 1)
        self.assertEqual(self.told(("say", (0, 1), (1,))), 1)
        self.assertEqual(self.told(("drop", (0,)), SAID), 1)
        self.assertEqual(self.told(("say", (0, 1, 5), (0,)), SAID), 1)
        self.assertEqual(self.told(("drop", (0,)), rows(ALL, (((0,),), ((0,),), ((0,),)))), 1)
        self.assertEqual(self.told(("say", (3,), (3,)), rows(ALL, ((), ((3,),), ()))), 0)
        self.assertEqual(lets_easing(thing=("drop", (0,)), helper="bo", guest="cy", door="al", book=SAID), 1)

    def test_shape(self):
        for thing in (
            None, 0, True, "say", "drop", (), [], ("say",), ("drop",), ("say", (0, 1)), ("drop", (0,), (1,)),
            ("say", (0, 1), (0,), (1,)), ["say", (0, 1), (0,)], ["drop", (0,)], ("say", (), (0,)), ("say", (0, 1), ()),
            ("drop", ()), ("say", [0, 1], (0,)), ("say", (0, 1), [0]), ("drop", [0]), ("drop", 0), ("drop", (True,)),
            ("say", (1, 0), (0,)), ("say", (0, 1), (0, 0)), ("drop", (-1,)), ("say", (False, 1), (0,)), ("drop", None),
            ("fold", (0,), (1,)), ("Say", (0, 1), (0,)), (("say",), (0, 1), (0,)), ("say", "0+1", (0,)), ((0, 1), (0,)),
            ("say", (0, 1), 0), ("drop", ((0,),)), (None, (0,)), ((), (0,)),
        ):
            self.assertEqual(self.told(thing), ("NoPaper", "shape", -1), thing)

    def test_word(self):
        for said in ((2,), (0, 2), (5,), (0, 1, 2), (10 ** 59,)):
            self.assertEqual(self.told(("say", said, (0,))), ("NoPaper", "word", -1))
            self.assertEqual(self.told(("say", said, (9,))), ("NoPaper", "word", -1))

    def test_there(self):
        for said in ((0, 1), (5,)):
            self.assertEqual(self.told(("say", said, (0,)), SAID), ("NoPaper", "there", -1))
            self.assertEqual(self.told(("say", said, (9,)), SAID), ("NoPaper", "there", -1))

    def test_drop(self):
        for dropped in ((2,), (0, 1), (10 ** 59,)):
            self.assertEqual(self.told(("say", (0, 1), dropped)), ("NoPaper", "drop", -1))
            self.assertEqual(self.told(("say", (0,), dropped)), ("NoPaper", "drop", -1))
            self.assertEqual(self.told(("drop", dropped)), ("NoPaper", "drop", -1))
        self.assertEqual(self.told(("drop", (0,)), rows(ALL, (((0,),), (), ((0,),)))), ("NoPaper", "drop", -1))

    def test_less(self):
        for thing in (
            ("say", (0,), (0,)), ("say", (0,), (1,)), ("say", (1,), (0,)), ("say", (1,), (1,)), ("drop", (0,)),
            ("drop", (1,)),
        ):
            self.assertEqual(self.told(thing), ("NoPaper", "less", -1), thing)

    def test_number_of_the_least_sides(self):
        book = rows(ALL, (((0,), (1,), (2,)), ((0,),), ((0,), (1,))))
        self.assertEqual(self.told(("drop", (0,)), book), 2)

    def test_told_are_let_by(self):
        for book, door, guest in byhand.drawn(281, 120, most_hands=5, most_meetings=8):
            for helper in book[1]:
                if helper not in (door, guest) and byhand.purse_of(book, helper):
                    easing = easing_of(book, door, guest, helper)
                    told = asked(lets_easing, book, door, guest, helper, easing)
                    self.assertIs(type(told), int)
                    self.assertEqual(told, by_hand(book, door, guest, helper, easing))

    def test_drawn(self):
        rng = random.Random(282)
        seen = {}
        for book, door, guest in byhand.drawn(283, 500, most_hands=5, most_meetings=7):
            helpers = [hand for hand in book[1] if hand not in (door, guest)]
            if not helpers:
                continue
            helper = rng.choice(helpers)
            purse = byhand.purse_of(book, helper)
            made = sorted(byhand.made_by(book, (helper,)) - {0})
            said = rng.choice([byhand.draw_word(rng, 7), *[byhand.word(rng.choice(made)) for _ in range(3) if made]])
            dropped = rng.choice([byhand.draw_word(rng, 7), *purse, *purse])
            thing = rng.choice((("say", said, dropped), ("say", said, dropped), ("drop", dropped)))
            told = refused(lets_easing, book, door, guest, helper, thing)
            self.assertEqual(told, by_hand(book, door, guest, helper, thing))
            seen[told[1] if isinstance(told, tuple) else "let"] = True
        self.assertEqual(sorted(seen), ["drop", "less", "let", "there", "word"])

    def test_drawn_spoilt(self):
        rng = random.Random(284)
        for _ in range(900):
            thing = byhand.spoilt(rng, rng.choice((("say", (0, 1), (0,)), ("drop", (1,)))))
            told = self.told(thing)
            if told == ("NoPaper", "shape", -1):
                self.assertFalse(self.is_formed(thing), thing)
            else:
                self.assertTrue(self.is_formed(thing), thing)
                self.assertEqual(told, by_hand(BOOK, "al", "cy", "bo", thing))
        for _ in range(500):
            self.assertEqual(self.told(byhand.draw_thing(rng)), ("NoPaper", "shape", -1))

    def is_formed(self, thing):
        if type(thing) is not tuple or not byhand.plain(thing) or thing[:1] not in (("say",), ("drop",)):
            return False
        words = thing[1:]
        return len(thing) == {"say": 3, "drop": 2}[thing[0]] and all(
            type(one) is tuple and one and all(type(m) is int and m >= 0 for m in one) and list(one) == sorted({*one})
            for one in words
        )

    def test_refused_by_the_class(self):
        with self.assertRaises(NoPaper):
            lets_easing(BOOK, "al", "cy", "bo", None)
