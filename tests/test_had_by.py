import random
import unittest

from metbefore.hadby import goes_by, had_by, knows_of
from tests import byhand
from tests.byhand import asked

ALL = ("al", "bo", "cy")
HISTORY = (4, ALL, (
    ("meet", ALL),                          # 0
    ("meet", ("bo", "cy")),                 # 1
    ("fold", "bo", (0,), (1,)),             # 2
    ("meet", ("al", "bo")),                 # 3
    ("drop", "bo", (2,)),                   # 4
    ("say", "cy", (1,)),                    # 5
    ("drop", "bo", (0, 1)),                 # 6
))


class HadBy(unittest.TestCase):
    def check(self, lot, had, knows):
        self.assertEqual(asked(had_by, HISTORY, lot), had)
        self.assertEqual(asked(goes_by, HISTORY, lot), tuple(sorted({*had, (1,)})))
        self.assertEqual(asked(knows_of, HISTORY, lot), knows)
        self.assertEqual(had_by(lot=lot, history=HISTORY), had)
        self.assertEqual(goes_by(lot=lot, history=HISTORY), tuple(sorted({*had, (1,)})))
        self.assertEqual(knows_of(lot=lot, history=HISTORY), knows)

    def test_nobody(self):
        self.check((), (), ((1,),))

    def test_from_the_first(self):
        self.check((("bo", 0),), ((0,), (0, 1), (1,), (2,)), ((0,), (1,), (2,)))
        self.check((("al", 0),), ((0,), (2,)), ((0,), (1,), (2,)))

    def test_folded_and_dropped_ahead(self):
        self.check((("bo", 2),), ((0,), (0, 1), (1,), (2,)), ((0,), (1,), (2,)))
        self.check((("bo", 3),), ((0, 1), (2,)), ((0,), (1,), (2,)))
        self.check((("bo", 4),), ((0, 1), (2,)), ((0,), (1,), (2,)))

    def test_dropped_in_the_very_deed(self):
        self.check((("bo", 5),), ((0, 1),), ((0,), (1,)))
        self.check((("bo", 6),), ((0, 1),), ((0,), (1,)))

    def test_behind_the_last_deed(self):
        self.check((("bo", 7),), (), ((1,),))
        self.check((("al", 7),), ((0,), (2,)), ((0,), (1,), (2,)))

    def test_of_two(self):
        self.check((("bo", 7), ("cy", 7)), ((0,), (1,)), ((0,), (1,)))
        self.check((("bo", 6), ("cy", 0)), ((0,), (0, 1), (1,)), ((0,), (1,)))

    def test_without_deeds(self):
        for lot in ((), (("al", 0),), (("al", 0), ("bo", 0))):
            for function in (had_by, goes_by, knows_of):
                self.assertEqual(asked(function, (1, ALL, ()), lot), ())

    def test_what_was_asked_for_is_on_the_board(self):
        history = (4, ALL, (("meet", ("al", "bo")), ("meet", ("al", "bo")), ("ask", "al", "bo", ((0,),), ((0, 1),))))
        self.assertEqual(asked(had_by, history, ()), ())
        self.assertEqual(asked(goes_by, history, ()), ((0,), (0, 1)))
        self.assertEqual(asked(knows_of, history, (("cy", 0),)), ((0,), (1,)))

    def test_drawn(self):
        rng = random.Random(251)
        for _ in range(300):
            history, books = byhand.draw_history(rng)
            lot = byhand.draw_lot(rng, history, most=3)
            had = asked(had_by, history, lot)
            self.assertEqual(had, byhand.had(books, lot))
            self.assertEqual(asked(goes_by, history, lot), byhand.went_by(books, lot))
            knows = asked(knows_of, history, lot)
            self.assertTrue(byhand.is_base(knows, byhand.all_made(byhand.went_by(books, lot))))
            self.assertTrue(byhand.plain((had, goes_by(history, lot))))

    def test_false_from_the_first_had_each_meeting(self):
        rng = random.Random(252)
        for _ in range(150):
            history, books = byhand.draw_history(rng)
            for hand in history[1]:
                had = had_by(history, ((hand, 0),))
                for meeting, there in enumerate(books[-1][2]):
                    self.assertEqual((meeting,) in had, hand in there)

    def test_knows_no_less(self):
        rng = random.Random(253)
        for _ in range(200):
            history, books = byhand.draw_history(rng)
            room, hands, deeds = history
            lot = byhand.draw_lot(rng, history)
            made = byhand.all_made(knows_of(history, lot))
            false = [hand for hand, _ in lot]
            others = [(hand, rng.randint(0, len(deeds))) for hand in hands if hand not in false][:1]
            self.assertLessEqual(made, byhand.all_made(knows_of(history, tuple(sorted([*lot, *others])))))
            earlier = tuple((hand, rng.randint(0, since)) for hand, since in lot)
            self.assertLessEqual(made, byhand.all_made(knows_of(history, earlier)))
            fewer = rng.randint(max([0, *[since for _, since in lot]]), len(deeds))
            self.assertLessEqual(byhand.all_made(knows_of((room, hands, deeds[:fewer]), lot)), made)
