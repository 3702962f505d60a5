import collections
import itertools
import random
import unittest

from metbefore.worlds import World
from tests import byhand, worldhand

ALL = ("al", "bo", "cy")
ROWS = (
    ("meet", ALL, 1), ("meet", ("al", "bo"), 0), ("say", "al", (0, 1)), ("ask", "al", "bo", ((0,),), ((1,),), (0,)),
    ("greet", "bo", "al", ((0, 1),), (1,), ((0,), (1,)), (1, 1)), ("fold", "al", (0,), (1,)), ("drop", "bo", (0,)),
)


def begun(*rows):
    world = World(ALL)
    world.do_all(rows)
    return world


def all_signs(world):
    return itertools.product((0, 1), repeat=len(world.signs_now()))


def sign(word, signs):
    return sum(signs[meeting] for meeting in word) % 2


def known_ahead(hand, k, lot):
    """What the false ones of a lot know ahead of deed k, an "ask", with shown on the board."""
    false = [pair for pair in lot if pair[1] <= k]
    return (*byhand.had(hand.books[:k + 1], false), *hand.books[k][4], *hand.deeds[k][3])


def answers_of(rows):
    """The answers of all asks, greets too, in their order."""
    told = []
    for row in rows:
        if row[0] == "ask":
            told.append(row[5])
        elif row[0] == "greet":
            told += [row[4], row[6]]
    return told


class AsIf(unittest.TestCase):
    def test_the_very_signs(self):
        world = begun(*ROWS)
        other = world.as_if((1, 0))
        self.assertIsNot(other, world)
        self.assertTrue(other == world)
        self.assertEqual(worldhand.looks(other), worldhand.looks(world))

    def test_others(self):
        world = begun(*ROWS)
        before = worldhand.looks(world)
        other = world.as_if(signs=(0, 1))
        self.assertEqual(worldhand.looks(world), before)
        self.assertEqual(other.log(), (world.log()[0], ("meet", ALL, 0), ("meet", ("al", "bo"), 1), *ROWS[2:]))
        self.assertEqual(other.signs_now(), (0, 1))
        self.assertFalse(other == world)
        self.assertEqual(other.history_now(), world.history_now())
        truths = [visit[3] for visit in world.visits()]
        self.assertEqual(truths, [True, True, False])
        self.assertEqual([visit[3] for visit in other.visits()], [False, True, False])
        self.assertEqual([visit[3] for visit in world.as_if((1, 1)).visits()], [False, False, True])

    def test_without_meetings(self):
        for world in (World(ALL), World(ALL, room=1)):
            other = world.as_if(())
            self.assertIsNot(other, world)
            self.assertTrue(other == world)

    def test_each_goes_on_by_itself(self):
        world = begun(*ROWS)
        other = world.as_if((1, 0))
        other.meet_now(ALL, 1)
        self.assertEqual(worldhand.looks(world), worldhand.looks(begun(*ROWS)))
        world.drop_now("bo", (1,))
        self.assertEqual(worldhand.looks(other), worldhand.looks(begun(*ROWS, ("meet", ALL, 1))))
        other.undo()
        self.assertEqual(worldhand.looks(other), worldhand.looks(begun(*ROWS)))

    def test_drawn_as_a_world_told_so(self):
        rng = random.Random(431)
        for _ in range(80):
            world, hand = worldhand.draw_world(rng)
            signs = [rng.randrange(2) for _ in hand.signs]
            left = list(signs)
            rows = [("meet", row[1], left.pop(0)) if row[0] == "meet" else row for row in hand.rows]
            told = World(hand.hands, room=hand.room)
            told.do_all(rows)
            other = world.as_if(tuple(signs))
            self.assertTrue(other == told)
            lots = [byhand.draw_lot(rng, hand.history()) for _ in range(3)]
            self.assertEqual(worldhand.looks(other, lots), worldhand.looks(told, lots))
            self.assertEqual(other.history_now(), world.history_now())
            self.assertEqual(other.book_now(), world.book_now())
            self.assertEqual([other.visit_strengths(lot) for lot in lots], [world.visit_strengths(lot) for lot in lots])
            row = worldhand.draw_row(rng, hand)
            if row:
                self.assertEqual(worldhand.do(other, row), worldhand.do(told, row))
                self.assertTrue(other == told)
            self.assertTrue(world.as_if(hand.signs) == world)

    def test_drawn_what_a_hand_sees_hangs_on_what_it_can_make_alone(self):
        rng = random.Random(432)
        seen = collections.Counter()
        for _ in range(60):
            world, hand = worldhand.draw_world(rng, meetings=4)
            for name in hand.hands:
                made = [byhand.word(bits) for bits in byhand.made_by(hand.books[-1], (name,))]
                for signs in all_signs(world):
                    same = all(sign(word, signs) == sign(word, hand.signs) for word in made)
                    self.assertIs(world.as_if(signs).seen_by(name) == world.seen_by(name), same)
                    seen[same] += 1
        self.assertGreater(min(seen.values()), 300)

    def test_drawn_visits_over_all_rows_of_signs(self):
        rng = random.Random(433)
        seen = collections.Counter()
        for _ in range(800):
            world, hand = worldhand.draw_world(rng, meetings=4)
            lot = byhand.draw_lot(rng, hand.history())
            asks = [k for k, deed in enumerate(hand.deeds) if deed[0] == "ask"]
            strengths, answers = world.visit_strengths(lot), answers_of(hand.rows)
            truths = {signs: [visit[3] for visit in world.as_if(signs).visits()] for signs in all_signs(world)}
            for n, k in enumerate(asks):
                if strengths[n] is not None:
                    known = known_ahead(hand, k, lot)
                    agree = [one for one in truths if all(sign(w, one) == sign(w, hand.signs) for w in known)]
                    right = sum(truths[one][n] for one in agree)
                    some = self.is_against(hand, known, hand.deeds[k][4], answers[n])
                    self.assertEqual(right << strengths[n], 0 if some else len(agree))
                    seen[strengths[n], some] += 1
            self.check_all_of_them(rng, hand, lot, asks, strengths, truths)
        self.assertGreater(min(seen[what] for what in ((0, True), (0, False), (1, False), (2, False))), 5)

    def is_against(self, hand, known, row, answers):
        """Whether a sum of the row's words that is known has another sign than the answers give it."""
        made = byhand.all_made(known)
        for some in range(1 << len(row)):
            at = [k for k in range(len(row)) if some >> k & 1]
            bits = byhand.xor([row[k] for k in at])
            if bits in made and sign(byhand.word(bits), hand.signs) != sum(answers[k] for k in at) % 2:
                return True
        return False

    def check_all_of_them(self, rng, hand, lot, asks, strengths, truths):
        """Several visits are all true in at most one out of two to the power of all their strengths."""
        among = [n for n, strength in enumerate(strengths) if strength is not None]
        some = sorted(rng.sample(among, rng.randint(0, len(among))))
        if some:
            known = known_ahead(hand, asks[some[0]], lot)
            agree = [one for one in truths if all(sign(w, one) == sign(w, hand.signs) for w in known)]
            right = sum(all(truths[one][n] for n in some) for one in agree)
            self.assertLessEqual(right << sum(strengths[n] for n in some), len(agree))
