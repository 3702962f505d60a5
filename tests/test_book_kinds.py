import random
import unittest

from metbefore.bookkinds import first_book, is_deed, is_lot
from tests import byhand
from tests.byhand import asked

SIXTY = 10 ** 59
DEEDS = (
    ("meet", ("al",)),
    ("meet", ("al", "bo", "cy")),
    ("fold", "al", (0,), (1, 2)),
    ("fold", "al", (1,), (0,)),
    ("drop", "al", (0, 1)),
    ("say", "nobody", (0, SIXTY)),
    ("ask", "al", "bo", (), ((0,),)),
    ("ask", "al", "bo", ((1,), (0,)), ((3,), (1,), (2,), (0, 3))),
    ("ask", "al", "al", ((0,),), ((0,),)),
    ("ask", "al", "bo", tuple((k,) for k in range(20)), ((0,),)),
)
NO_DEEDS = (
    None, 0, True, "meet", "", (), [], ("meet",), ("meet", ()), ("meet", "al"), ("meet", ["al"]), ["meet", ("al",)],
    ("meet", ("al", "al")), ("meet", ("bo", "al")), ("meet", ("Al",)), ("meet", ("",)), ("meet", ("abcdefghi",)),
    ("meet", (0,)), ("meet", (("al",),)), ("meet", ("al",), 0), ("meet", ("al",), ("bo",)), ("Meet", ("al",)),
    ("met", ("al",)), (0, ("al",)), (("meet",), ("al",)), (None, None), ("world", 4, ("al", "bo")),
    ("fold", "al", (0,), (0,)), ("fold", "al", (0,), ()), ("fold", "al", (), (0,)), ("fold", "al", (0,)),
    ("fold", "al", (0,), (1,), (2,)), ("fold", "al", (0,), [1]), ("fold", "al", [0], (1,)),
    ("fold", "al", (1, 0), (2,)),
    ("fold", "al", (True,), (2,)), ("fold", ("al",), (0,), (1,)), ("fold", 0, (0,), (1,)),
    ["fold", "al", (0,), (1,)], ("fold", "al", ((0,), (1,))),
    ("drop", "al", ()), ("drop", "al"), ("drop", "al", (0,), (1,)), ("drop", "al", 0), ("drop", "al", [0]),
    ("drop", "al", (0, 0)), ("drop", "al", (-1,)), ("drop", "AL", (0,)), ["drop", "al", (0,)], ("drop", "al", (False,)),
    ("say", "al", ()), ("say", "al"), ("say", "al", (0,), (1,)), ("say", "al", [0]), ("say", "al", (1, 0)),
    ("say", "", (0,)), ("say", None, (0,)), ("say", "al", None), ["say", "al", (0,)], ("say", "al", ((0,),)),
    ("ask", "al", "bo", (), ()), ("ask", "al", "bo", (), ((0,), (1,), (2,), (3,), (4,))), ("ask", "al", "bo", ((0,),)),
    ("ask", "al", "bo", (), ((0,), (0,))), ("ask", "al", "bo", ((0,), (0,)), ((0,),)), ("ask", "al", "bo", (), ((),)),
    ("ask", "al", "bo", ((),), ((0,),)), ("ask", "al", "bo", [], ((0,),)), ("ask", "al", "bo", (), [(0,)]),
    ("ask", "al", "bo", (), ([0],)), ("ask", "al", "bo", ([0],), ((0,),)), ("ask", "al", "Bo", (), ((0,),)),
    ("ask", "Al", "bo", (), ((0,),)), ("ask", "al", None, (), ((0,),)), ("ask", "al", "bo", (), ((0,),), (0,)),
    ("ask", "al", "bo", None, ((0,),)), ("ask", "al", "bo", (), (0,)), ["ask", "al", "bo", (), ((0,),)],
    ("ask", "al", "bo", (), ((True,),)), ("ask", "al", "bo", ((1, 0),), ((0,),)), ("ask", "al", ("bo",), (), ((0,),)),
    ("greet", "al", "bo", ((0,),), (0,), ((0,),), (0,)), ("meet", ("al",), 1),
)


class IsDeed(unittest.TestCase):
    def test_deeds(self):
        for deed in DEEDS:
            self.assertIs(asked(is_deed, deed), True, deed)
        self.assertIs(is_deed(thing=DEEDS[0]), True)

    def test_others(self):
        for thing in NO_DEEDS:
            self.assertIs(asked(is_deed, thing), False, thing)

    def test_drawn(self):
        rng = random.Random(101)
        for _ in range(3000):
            thing = byhand.spoilt(rng, rng.choice(DEEDS))
            told = asked(is_deed, thing)
            self.assertIs(type(told), bool)
            self.assertIs(told, self.by_hand(thing), thing)
        for _ in range(500):
            self.assertIs(asked(is_deed, byhand.draw_thing(rng)), False)

    def by_hand(self, thing):
        """Whether a spoilt deed is one, each part by itself."""
        if not byhand.plain(thing) or type(thing) is not tuple:
            return False
        forms = {"meet": "H", "fold": "hww", "drop": "hw", "say": "hw", "ask": "hhrR"}
        if thing == () or type(thing[0]) is not str or thing[0] not in forms:
            return False
        form = forms[thing[0]]
        if len(thing) != len(form) + 1 or not all(self.fits(*pair) for pair in zip(form, thing[1:])):
            return False
        return thing[0] != "fold" or thing[2] != thing[3]

    def fits(self, letter, part):
        if letter == "h":
            return type(part) is str and part != "" and len(part) < 9 and set(part) <= set("abcdefghijklmnopqrstuvwxyz")
        if type(part) is not tuple:
            return False
        if letter == "H":
            return part != () and all(self.fits("h", one) for one in part) and list(part) == sorted(set(part))
        if letter == "w":
            numbers = part != () and all(type(one) is int and one >= 0 for one in part)
            return numbers and list(part) == sorted(set(part))
        row = all(self.fits("w", one) for one in part) and len(part) == len(set(part))
        return row and (letter == "r" or 0 < len(part) < 5)


class IsLot(unittest.TestCase):
    def test_lots(self):
        for lot in ((), (("al", 0),), (("al", 3), ("bo", 0)), (("al", SIXTY), ("bo", 2), ("cy", 2))):
            self.assertIs(asked(is_lot, lot), True, lot)
        self.assertIs(is_lot(thing=()), True)

    def test_others(self):
        for thing in (
            None, 0, True, "", "al", [], [("al", 0)], ("al", 0), ("al",), (("al",),), (("al", 0, 0),), (["al", 0],),
            (("al", True),), (("al", -1),), (("al", None),), (("al", "0"),), (("Al", 0),), (("", 0),), ((0, 0),),
            (("abcdefghi", 0),), (("bo", 0), ("al", 0)), (("al", 0), ("al", 0)), (("al", 0), ("al", 1)),
            (("al", (0,)),), ((("al", 0),),), (("al", 0), None), (("al", 0), ("bo", 0), ("al", 1)), ((),),
        ):
            self.assertIs(asked(is_lot, thing), False, thing)

    def test_drawn(self):
        rng = random.Random(102)
        for _ in range(1000):
            thing = byhand.spoilt(rng, (("al", 0), ("bo", 2), ("cy", 1)))
            self.assertIs(asked(is_lot, thing), by_hand_lot(thing), thing)
        for _ in range(500):
            thing = byhand.draw_thing(rng)
            self.assertIs(asked(is_lot, thing), by_hand_lot(thing), thing)


def by_hand_lot(thing):
    if type(thing) is not tuple:
        return False
    for pair in thing:
        if type(pair) is not tuple or len(pair) != 2 or type(pair[0]) is not str or type(pair[1]) is not int:
            return False
        if pair[1] < 0 or not 1 <= len(pair[0]) <= 8 or not set(pair[0]) <= set("abcdefghijklmnopqrstuvwxyz"):
            return False
    names = [pair[0] for pair in thing]
    return names == sorted(set(names))


class FirstBook(unittest.TestCase):
    def test_told(self):
        self.assertEqual(asked(first_book, 4, ("al", "bo")), (4, ("al", "bo"), (), ((), ()), ()))
        self.assertEqual(asked(first_book, 1, ("al", "bo", "cy")), (1, ("al", "bo", "cy"), (), ((), (), ()), ()))
        self.assertEqual(first_book(hands=("al", "bo"), room=SIXTY), (SIXTY, ("al", "bo"), (), ((), ()), ()))

    def test_plain(self):
        self.assertTrue(byhand.plain(first_book(4, byhand.NAMES)))
        self.assertEqual(len(first_book(4, byhand.NAMES)[3]), len(byhand.NAMES))
