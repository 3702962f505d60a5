import random
import unittest

from metbefore.bookkinds import is_lot
from metbefore.falselots import false_lots
from metbefore.lotkinds import is_lot_of
from tests import byhand
from tests.byhand import asked

HISTORY = (4, ("al", "bo", "cy"), (("meet", ("al", "bo")), ("say", "al", (0,))))
VOID = (1, ("al", "bo"), ())


class IsLotOf(unittest.TestCase):
    def test_lots(self):
        for lot in ((), (("al", 0),), (("al", 2), ("cy", 0)), (("al", 0), ("bo", 1), ("cy", 2))):
            self.assertIs(asked(is_lot_of, HISTORY, lot), True, lot)
        self.assertIs(asked(is_lot_of, VOID, (("al", 0), ("bo", 0))), True)
        self.assertIs(is_lot_of(thing=(("al", 2),), history=HISTORY), True)

    def test_since_beyond_the_deeds(self):
        for since in (3, 4, 10 ** 59):
            self.assertIs(asked(is_lot_of, HISTORY, (("al", since),)), False)
            self.assertIs(asked(is_lot_of, HISTORY, (("al", 0), ("bo", since))), False)
        self.assertIs(asked(is_lot_of, VOID, (("al", 1),)), False)

    def test_stranger(self):
        self.assertIs(asked(is_lot_of, HISTORY, (("di", 0),)), False)
        self.assertIs(asked(is_lot_of, HISTORY, (("al", 0), ("di", 0))), False)
        self.assertIs(asked(is_lot_of, VOID, (("cy", 0),)), False)

    def test_no_lots_by_kind(self):
        for thing in (
            None, 0, True, "al", [], [("al", 0)], (["al", 0],), (("al", True),), (("al", -1),), (("al",),), ("al", 0),
            (("al", 0), ("al", 1)), (("al", 0), ("al", 0)), (("bo", 0), ("al", 0)), (("Al", 0),), (("al", 0, 1),),
        ):
            self.assertIs(asked(is_lot_of, HISTORY, thing), False, thing)

    def test_all_that_are_told(self):
        for count in range(4):
            for since in range(3):
                for lot in false_lots(HISTORY, "al", "cy", count=count, since=since):
                    self.assertIs(is_lot_of(HISTORY, lot), True)

    def test_drawn(self):
        rng = random.Random(121)
        for _ in range(1000):
            thing = byhand.spoilt(rng, (("al", 1), ("bo", 2)))
            told = asked(is_lot_of, HISTORY, thing)
            fits = is_lot(thing) and all(pair[0] in HISTORY[1] and pair[1] < 3 for pair in thing)
            self.assertIs(told, fits, thing)
        for _ in range(500):
            self.assertIn(asked(is_lot_of, HISTORY, byhand.draw_thing(rng)), (True, False))
