import random
import unittest

from metbefore.bars import bar_of, least_bar, sides_against, strong_for
from metbefore.leastsides import least_sides
from tests import byhand
from tests.byhand import asked

FOUR = ("al", "bo", "cy", "di")
HISTORY = (4, FOUR, (
    ("meet", ("al", "bo")),
    ("meet", ("bo", "cy")),
    ("meet", ("al", "cy", "di")),
    ("meet", ("al", "cy")),
))
# al has (0), cy (0, 1) and di (1).
RAISED = (4, FOUR, (
    ("meet", ("al", "cy")),
    ("meet", ("cy", "di")),
    ("fold", "cy", (0,), (1,)),
))


def strength(books, lot, ones, others):
    """The rank, beyond what the lot knows, of what these hands and those both make, by counting."""
    both = byhand.made_by(books[-1], ones) & byhand.made_by(books[-1], others)
    known = byhand.went_by(books, lot)
    return byhand.beyond([byhand.word(bits) for bits in both], known)


def all_sides(history, lot, door, guest):
    hands = tuple(hand for hand in history[1] if hand not in dict(lot))
    return byhand.sides((0, hands), door, guest), hands


class Bars(unittest.TestCase):
    def test_sides(self):
        self.assertEqual(asked(sides_against, HISTORY, (("bo", 0),), "al", "cy"), (("al",), ("al", "di")))
        self.assertEqual(asked(sides_against, HISTORY, (("bo", 0), ("di", 4)), "al", "cy"), (("al",),))
        self.assertEqual(asked(sides_against, HISTORY, (("al", 0),), "di", "bo"), (("bo", "cy", "di")[1:], ("di",)))
        self.assertEqual(
            asked(sides_against, HISTORY, (), "al", "cy"),
            (("al",), ("al", "bo"), ("al", "bo", "di"), ("al", "di")),
        )
        self.assertEqual(sides_against(guest="cy", door="al", lot=(("bo", 0), ("di", 4)), history=HISTORY), (("al",),))

    def test_two_hands_alone(self):
        history = (1, ("al", "bo"), (("meet", ("al", "bo")),))
        self.assertEqual(asked(sides_against, history, (), "bo", "al"), (("bo",),))
        self.assertEqual(asked(bar_of, history, (), ("bo",)), 1)
        self.assertEqual(asked(least_bar, history, (), "bo", "al"), (1, (("bo",),)))
        self.assertEqual(asked(strong_for, history, (), "bo", "al"), 1)

    def test_bar(self):
        # di, false from the first, knows (2): of (0), (2), (3), that al and both others make, two are beyond it.
        self.assertEqual(asked(bar_of, HISTORY, (("di", 0),), ("al",)), 2)
        self.assertEqual(asked(bar_of, HISTORY, (("di", 2),), ("al",)), 2)
        self.assertEqual(asked(bar_of, HISTORY, (("bo", 0), ("di", 0)), ("al",)), 1)
        self.assertEqual(asked(bar_of, HISTORY, (("bo", 0),), ("al",)), 2)
        self.assertEqual(asked(bar_of, HISTORY, (("bo", 0),), ("al", "di")), 2)
        self.assertEqual(asked(bar_of, HISTORY, (), ("al", "bo")), 3)
        self.assertEqual(bar_of(side=("al",), lot=(("bo", 0), ("di", 0)), history=HISTORY), 1)

    def test_least(self):
        self.assertEqual(asked(least_bar, HISTORY, (("di", 0),), "al", "cy"), (2, (("al",), ("al", "bo"))))
        self.assertEqual(asked(least_bar, HISTORY, (("bo", 0), ("di", 0)), "al", "cy"), (1, (("al",),)))
        self.assertEqual(asked(least_bar, HISTORY, (("al", 0),), "bo", "di"), (0, (("bo", "cy"),)))
        self.assertEqual(least_bar(guest="di", door="bo", lot=(("al", 0),), history=HISTORY), (0, (("bo", "cy"),)))

    def test_strong(self):
        self.assertEqual(asked(strong_for, HISTORY, (("di", 0),), "al", "cy"), 1)
        self.assertEqual(asked(strong_for, HISTORY, (), "al", "cy"), 2)
        self.assertEqual(asked(strong_for, HISTORY, (("al", 0), ("bo", 0)), "cy", "di"), 0)
        self.assertEqual(strong_for(guest="al", door="cy", lot=(), history=HISTORY), 2)

    def test_known_words_make_nothing_common(self):
        # With what di knows al and cy would both make (0), beyond it: but neither knows that.
        lot = (("di", 0),)
        self.assertEqual(asked(bar_of, RAISED, lot, ("al",)), 0)
        self.assertEqual(asked(least_bar, RAISED, lot, "al", "cy"), (0, (("al",), ("al", "bo"))))
        self.assertEqual(asked(strong_for, RAISED, lot, "al", "cy"), 0)

    def test_a_say_of_the_false_one_may_raise_it(self):
        lot = (("di", 0),)
        behind = (*RAISED[:2], (*RAISED[2], ("say", "di", (1,))))
        self.assertEqual(asked(bar_of, behind, lot, ("al",)), 1)
        self.assertEqual(asked(least_bar, behind, lot, "al", "cy"), (1, (("al",), ("al", "bo"))))
        self.assertEqual(asked(strong_for, behind, lot, "al", "cy"), 1)

    def test_void(self):
        history = (2, FOUR, ())
        self.assertEqual(asked(least_bar, history, (), "al", "bo")[0], 0)
        self.assertEqual(len(least_bar(history, (), "al", "bo")[1]), 4)
        self.assertEqual(asked(strong_for, history, (("cy", 0),), "al", "bo"), 0)

    def test_drawn(self):
        rng = random.Random(261)
        lower = false = 0
        for _ in range(400):
            history, books = byhand.draw_history(rng, kinds=rng.choice(((None,), ("meet", "meet", "meet", "fold"))))
            door, guest = rng.sample(history[1], 2)
            lot = byhand.draw_lot(rng, history, without=(door, guest))
            sides, hands = all_sides(history, lot, door, guest)
            self.assertEqual(asked(sides_against, history, lot, door, guest), sides)
            bars = {}
            for side in sides:
                bars[side] = strength(books, lot, side, [hand for hand in hands if hand not in side])
                self.assertEqual(asked(bar_of, history, lot, side), bars[side])
            least = min(bars.values())
            told = asked(least_bar, history, lot, door, guest)
            self.assertEqual(told, (least, tuple(side for side in sides if bars[side] == least)))
            strong = asked(strong_for, history, lot, door, guest)
            self.assertEqual(strong, strength(books, lot, (door,), (guest,)))
            self.assertLessEqual(strong, least)
            self.assertTrue(byhand.plain((told, strong)))
            lower += strong < least
            false += lot != () and least > 0
            if lot == ():
                self.assertEqual(told, least_sides(books[-1], door, guest))
        self.assertGreater(lower, 10)
        self.assertGreater(false, 30)

    def test_whatever_is_said_outside_the_lot(self):
        rng = random.Random(262)
        said = 0
        for _ in range(150):
            history, books = byhand.draw_history(rng)
            door, guest = rng.sample(history[1], 2)
            lot = byhand.draw_lot(rng, history, without=(door, guest))
            bars = {side: bar_of(history, lot, side) for side in sides_against(history, lot, door, guest)}
            now = books[-1]
            for _ in range(3):
                deed = byhand.draw_deed(rng, now, "say")
                if deed and deed[1] not in dict(lot):
                    now = byhand.behind(now, deed)
                    history = (*history[:2], (*history[2], deed))
                    said += 1
            self.assertLessEqual(strong_for(history, lot, door, guest), min(bars.values()))
            for side in bars:
                self.assertLessEqual(bar_of(history, lot, side), bars[side])
        self.assertGreater(said, 50)
