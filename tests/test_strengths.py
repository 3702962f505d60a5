import collections
import random
import unittest

from metbefore.sayings import both_can_make
from metbefore.strengths import full_strength, strength_of, weakest
from tests import byhand
from tests.byhand import asked

HANDS = ("al", "bo", "cy", "di", "ed")
MEETS = (("meet", ("al", "bo", "cy", "ed")), ("meet", ("al", "bo", "di", "ed")), ("fold", "ed", (0,), (1,)))
HISTORY = (4, HANDS, MEETS)
LATE = 3


def answers_that_come(history, known, row, signs):
    """Of all rows of signs that agree with what is known, the answers to the row, with how often each comes."""
    many = sum(deed[0] == "meet" for deed in history[2])
    told = collections.Counter()
    for bits in range(1 << many):
        if all(sign(word, bits) == sign(word, signs) for word in known):
            told[tuple(sign(word, bits) for word in row)] += 1
    return told


def sign(word, bits):
    return (byhand.number(word) & bits).bit_count() % 2


def draw_row(rng, history, most=4):
    """Any unlike words of a history's meetings."""
    many = sum(deed[0] == "meet" for deed in history[2])
    made = list(range(1, 1 << many))
    return tuple(byhand.word(bits) for bits in rng.sample(made, rng.randint(0, min(most, len(made)))))


def draw_shown(rng, history):
    """Words to be shown: in any order, some twice, the void one too."""
    row = [*draw_row(rng, history, 2), ()]
    return tuple(rng.choice(row) for _ in range(rng.randint(0, 3)))


class Strength(unittest.TestCase):
    def test_told(self):
        for lot, row, strength in (
            ((), ((0,),), 1), ((), ((0,), (1,)), 2), ((), ((0,), (1,), (0, 1)), 2), ((("ed", 0),), ((0,), (1,)), 0),
            ((("ed", LATE),), ((0,), (1,)), 1), ((("ed", LATE),), ((0, 1),), 0), ((("cy", 0),), ((0,),), 0),
            ((("cy", 0),), ((0, 1),), 1), ((("cy", 0), ("di", 0)), ((0, 1),), 0), ((("al", 0),), ((0,),), 0),
            ((), (), 0), ((("cy", 0),), (), 0), ((("cy", LATE), ("ed", LATE)), ((1,),), 0),
        ):
            told = asked(strength_of, HISTORY, lot, row)
            self.assertEqual((lot, row, told), (lot, row, strength))
            self.assertIs(type(told), int)

    def test_shown(self):
        for shown, strength in (
            ((), 2), (((0,),), 1), (((0,), (0,)), 1), (((),), 2), (((), (0, 1), ()), 1), (((0,), (1,)), 0),
            (((0, 1), (1,), (0,)), 0),
        ):
            self.assertEqual(asked(strength_of, HISTORY, (), ((0,), (1,)), shown=shown), strength)
        self.assertEqual(strength_of(shown=((0,),), row=((0, 1),), lot=(("di", 0),), history=HISTORY), 0)

    def test_shown_that_adds_nothing(self):
        said = (4, HANDS, MEETS + (("say", "al", (0,)),))
        self.assertEqual(asked(strength_of, said, (), ((0,), (1,))), 1)
        self.assertEqual(asked(strength_of, said, (), ((0,), (1,)), shown=((0,),)), 1)

    def test_by_name_alone(self):
        with self.assertRaises(TypeError):
            strength_of(HISTORY, (), ((0,),), ())
        with self.assertRaises(TypeError):
            full_strength(HISTORY, "al", "bo", (), ())
        with self.assertRaises(TypeError):
            weakest(HISTORY, "al", "bo", ((0,),), 1)

    def test_drawn_against_all_rows_of_signs(self):
        rng = random.Random(331)
        seen = collections.Counter()
        for _ in range(300):
            history, books, _ = byhand.draw_shared(rng)
            lot, row = byhand.draw_lot(rng, history), draw_row(rng, history)
            shown = draw_shown(rng, history)
            known = (*byhand.went_by(books, lot), *shown)
            told = asked(strength_of, history, lot, row, shown=shown)
            come = answers_that_come(history, known, row, rng.getrandbits(len(books[-1][2])))
            self.assertEqual(len(come), 2 ** told)
            self.assertEqual(len(set(come.values())), 1)
            seen[told] += 1
        self.assertGreater(min(seen[k] for k in range(4)), 10)

    def test_drawn_falls_by_one_at_most_with_each_word_said(self):
        rng = random.Random(332)
        fallen = 0
        for _ in range(200):
            history, books, _ = byhand.draw_shared(rng)
            room, hands, deeds = history
            lot, row = byhand.draw_lot(rng, history), draw_row(rng, history)
            deed = byhand.draw_deed(rng, books[-1])
            if deed is None:
                continue
            ahead = strength_of(history, lot, row)
            told = strength_of((room, hands, deeds + (deed,)), lot, row)
            more = len(byhand.behind(books[-1], deed)[4]) - len(books[-1][4])
            self.assertIn(told, range(max(0, ahead - more), ahead + 1))
            fallen += told < ahead
        self.assertGreater(fallen, 10)


class FullStrength(unittest.TestCase):
    def test_told(self):
        for door, guest, lot, strength in (
            ("al", "bo", (), 2), ("al", "bo", (("cy", 0),), 1), ("al", "bo", (("ed", LATE),), 1),
            ("al", "bo", (("ed", 0),), 0), ("al", "cy", (), 1), ("cy", "di", (), 0), ("cy", "ed", (), 0),
            ("al", "ed", (), 1), ("ed", "bo", (("cy", 0),), 1), ("ed", "bo", (("cy", 0), ("di", 0)), 0),
        ):
            self.assertEqual(asked(full_strength, HISTORY, door, guest, lot), strength)

    def test_shown(self):
        for shown, strength in (((), 2), (((0, 1),), 1), (((0, 1), (), (0, 1)), 1), (((0,), (0, 1)), 0), (((),), 2)):
            self.assertEqual(asked(full_strength, HISTORY, "al", "bo", (), shown=shown), strength)
        # What is shown helps neither of both: it is the board's share of what they make that counts.
        self.assertEqual(asked(full_strength, HISTORY, "al", "cy", (), shown=((1,),)), 1)
        told = full_strength(shown=((0,),), lot=(), guest="bo", door="al", history=HISTORY)
        self.assertEqual(told, 1)

    def test_nothing_beyond_the_board(self):
        history = (4, HANDS, MEETS + (("say", "al", (0,)),))
        self.assertEqual(asked(full_strength, history, "al", "cy", ()), 0)
        self.assertEqual(asked(full_strength, (1, ("al", "bo"), ()), "bo", "al", ()), 0)

    def test_drawn(self):
        rng = random.Random(333)
        seen = collections.Counter()
        for _ in range(300):
            history, books, pair = byhand.draw_shared(rng)
            door, guest = pair
            lot = byhand.draw_lot(rng, history, without=pair)
            shown = draw_shown(rng, history)
            known = (*byhand.went_by(books, lot), *shown)
            both = byhand.made_by(books[-1], (door,)) & byhand.made_by(books[-1], (guest,))
            told = asked(full_strength, history, door, guest, lot, shown=shown)
            self.assertEqual(told, byhand.beyond([byhand.word(bits) for bits in both], known))
            self.assertEqual(told, full_strength(history, guest, door, lot, shown=shown))
            row = byhand.draw_some(rng, both, 0, 4) or ()
            self.assertLessEqual(strength_of(history, lot, row, shown=shown), min(told, len(row)))
            everything = both_can_make(books[-1], door, guest)
            self.assertEqual(strength_of(history, lot, everything, shown=shown), told)
            seen[told] += 1
        self.assertGreater(min(seen[k] for k in range(4)), 10)


class Weakest(unittest.TestCase):
    def test_told(self):
        for row, how, told in (
            (((0,), (1,)), {}, (0, (("ed", 0),))), (((0,), (1,)), {"since": LATE}, (1, (("cy", 3),))),
            (((0, 1),), {"since": LATE}, (0, (("ed", 3),))), (((0,),), {"since": LATE}, (0, (("cy", 3),))),
            (((0,), (1,)), {"count": 0}, (2, ())), (((0,), (1,)), {"count": 0, "since": 3}, (2, ())),
            (((0,), (1,)), {"count": 2}, (0, (("cy", 0), ("di", 0)))), ((), {}, (0, (("cy", 0),))),
            (((0,), (1,)), {"count": 9}, (0, (("cy", 0), ("di", 0), ("ed", 0)))),
            (((0,), (1,)), {"since": LATE, "shown": ((0,),)}, (0, (("di", 3),))),
            (((0,), (1,)), {"count": 0, "shown": ((0,), (0,))}, (1, ())),
        ):
            self.assertEqual((row, how, asked(weakest, HISTORY, "al", "bo", row, **how)), (row, how, told))
        named = weakest(since=3, shown=(), count=1, row=((0, 1),), guest="bo", door="al", history=HISTORY)
        self.assertEqual(named, (0, (("ed", 3),)))

    def test_two_hands_alone(self):
        history = (2, ("al", "bo"), (("meet", ("al", "bo")),))
        self.assertEqual(asked(weakest, history, "bo", "al", ((0,),), count=3), (1, ()))

    def test_drawn(self):
        rng = random.Random(334)
        seen = collections.Counter()
        for _ in range(250):
            history, books, pair = byhand.draw_shared(rng)
            door, guest, how = byhand.draw_look(rng, history, books, pair)
            how.pop("strength", 0)
            row = draw_row(rng, history)
            told = asked(weakest, history, door, guest, row, **how)
            self.assertTrue(byhand.plain(told))
            shown = how.get("shown", ())
            lots = byhand.lots_of(history, door, guest, how.get("count", 1), how.get("since", 0))
            by_hand = [(byhand.beyond(row, (*byhand.went_by(books, lot), *shown)), lot) for lot in lots]
            self.assertEqual(told, min(by_hand))
            self.assertEqual(told[0], strength_of(history, told[1], row, shown=shown))
            seen[told[0]] += 1
        self.assertGreater(min(seen[k] for k in range(3)), 10)

    def test_drawn_more_against(self):
        rng = random.Random(335)
        for _ in range(150):
            history, books, pair = byhand.draw_shared(rng)
            door, guest, how = byhand.draw_look(rng, history, books, pair)
            how = {"count": how.get("count", 1), "since": how.get("since", 0), "shown": how.get("shown", ())}
            row = draw_row(rng, history)
            told = weakest(history, door, guest, row, **how)[0]
            more = {**how, rng.choice(("count", "since")): 0}
            if "count" in more and more["count"] < how["count"]:
                self.assertGreaterEqual(weakest(history, door, guest, row, **more)[0], told)
            else:
                self.assertLessEqual(weakest(history, door, guest, row, **more)[0], told)
            shown = how["shown"] + draw_shown(rng, history)
            self.assertLessEqual(weakest(history, door, guest, row, **{**how, "shown": shown})[0], told)
            self.assertLessEqual(weakest(history, door, guest, row[:-1], **how)[0], told)
            self.assertLessEqual(weakest(history, door, guest, row, **{**how, "count": how["count"] + 1})[0], told)
