import random
import unittest

from metbefore.falselots import false_lots
from tests import byhand
from tests.byhand import asked

MEET = ("meet", ("al", "bo", "cy"))
HISTORY = (4, ("al", "bo", "cy", "di"), (MEET, ("say", "al", (0,)), ("drop", "bo", (0,))))


def by_hand(history, door, guest, count, since):
    """All sets of the others, each looked at."""
    others = [hand for hand in history[1] if hand not in (door, guest)]
    many = min(count, len(others))
    told = []
    for bits in range(1 << len(others)):
        lot = tuple((hand, since) for k, hand in enumerate(others) if bits >> k & 1)
        if len(lot) == many:
            told.append(lot)
    return tuple(sorted(told))


def draw_history(rng):
    """A history of up to ten meetings, folds, drops and says."""
    hands = byhand.NAMES[:rng.randint(2, 7)]
    purses = {hand: [] for hand in hands}
    deeds = []
    met = 0
    for _ in range(rng.randint(0, 10)):
        hand = rng.choice(hands)
        if len(purses[hand]) < 4 and (not purses[hand] or rng.random() < 0.5):
            deeds.append(("meet", (hand,)))
            purses[hand].append((met,))
            met += 1
        elif len(purses[hand]) > 1:
            one, other = purses[hand].pop(), purses[hand].pop()
            deeds.append(("fold", hand, one, other))
            purses[hand].append(tuple(sorted(one + other)))
        elif purses[hand]:
            deeds.append(("drop", hand, purses[hand].pop()))
    return 4, hands, tuple(deeds)


class FalseLots(unittest.TestCase):
    def test_left_out(self):
        self.assertEqual(asked(false_lots, HISTORY, "al", "cy"), ((("bo", 0),), (("di", 0),)))

    def test_none_of_count_nought(self):
        self.assertEqual(asked(false_lots, HISTORY, "al", "cy", count=0), ((),))
        self.assertEqual(asked(false_lots, HISTORY, "al", "cy", count=0, since=3), ((),))

    def test_all_others_and_more(self):
        both = ((("bo", 2), ("di", 2)),)
        for count in (2, 3, 7, 10 ** 59):
            self.assertEqual(asked(false_lots, HISTORY, "al", "cy", count=count, since=2), both)

    def test_two_hands_alone(self):
        history = (1, ("al", "bo"), ())
        for count in (0, 1, 2):
            self.assertEqual(asked(false_lots, history, "bo", "al", count=count), ((),))

    def test_since(self):
        self.assertEqual(asked(false_lots, HISTORY, "di", "bo", since=3), ((("al", 3),), (("cy", 3),)))

    def test_other_way_about(self):
        self.assertEqual(false_lots(HISTORY, "di", "bo"), false_lots(HISTORY, "bo", "di"))

    def test_by_name_alone(self):
        with self.assertRaises(TypeError):
            false_lots(HISTORY, "al", "cy", 1)

    def test_drawn(self):
        rng = random.Random(51)
        for _ in range(150):
            history = draw_history(rng)
            door, guest = rng.sample(history[1], 2)
            count = rng.randint(0, 6)
            since = rng.choice((0, rng.randint(0, len(history[2])), len(history[2])))
            told = asked(false_lots, history, door, guest, count=count, since=since)
            self.assertEqual(told, by_hand(history, door, guest, count, since))
            self.assertNotEqual(told, ())
            self.assertTrue(byhand.plain(told))
            named = false_lots(since=since, count=count, guest=guest, door=door, history=history)
            self.assertEqual(named, told)
