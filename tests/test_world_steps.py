import collections
import random
import unittest

from metbefore.errors import NoDeed, NoStep
from metbefore.worlds import World
from tests import byhand, worldhand
from tests.byhand import refused

ALL = ("al", "bo", "cy")
ROWS = (
    ("meet", ALL, 1), ("meet", ("al", "bo"), 0), ("say", "al", (0, 1)), ("ask", "al", "bo", ((0,),), ((1,),), (0,)),
    ("greet", "bo", "al", ((0, 1),), (1,), ((0,), (1,)), (1, 1)), ("fold", "al", (0,), (1,)), ("drop", "bo", (0,)),
)
TEXT = (
    "world 4 al,bo,cy / meet al,bo,cy 1 / meet al,bo 0 / say al 0+1 / ask al bo 0 1 0 / greet bo al 0+1 1 0,1 11"
    " / fold al 0 1 / drop bo 0"
)


def begun(*rows, hands=ALL, **named):
    world = World(hands, **named)
    world.do_all(rows)
    return world


class Logs(unittest.TestCase):
    def test_log(self):
        world = begun(*ROWS)
        self.assertEqual(world.log(), (("world", 4, ALL), *ROWS))
        self.assertTrue(byhand.plain(world.log()))
        self.assertEqual(World(("a", "b"), room=2).log(), (("world", 2, ("a", "b")),))

    def test_shown_left_out_is_none(self):
        world = begun(*ROWS[:2])
        world.ask_now("al", "bo", ((0,),), (0,))
        self.assertEqual(world.log()[-1], ("ask", "al", "bo", (), ((0,),), (0,)))

    def test_len_counts_rows(self):
        self.assertEqual(len(World(ALL)), 0)
        for many in range(len(ROWS) + 1):
            self.assertEqual(len(begun(*ROWS[:many])), many)

    def test_str(self):
        self.assertEqual(str(begun(*ROWS)), TEXT)
        self.assertEqual(str(World(("a", "b"), room=12)), "world 12 a,b")


class Equals(unittest.TestCase):
    def test_worlds(self):
        one = begun(*ROWS)
        for other, same in (
            (begun(*ROWS), True), (one, True), (begun(*ROWS[:-1]), False), (begun(*ROWS, room=5), False),
            (World(ALL), False),
            (begun(*ROWS, hands=(*ALL, "di")), False), (begun(("meet", ALL, 0), *ROWS[1:]), False),
            (begun(*ROWS[:3], ("ask", "al", "bo", ((0,),), ((1,),), (1,)), *ROWS[4:]), False),
        ):
            for left, right in ((one, other), (other, one)):
                self.assertIs(left == right, same)
                self.assertIs(left != right, not same)
        self.assertIs(World(ALL) == World(ALL), True)
        self.assertIs(World(ALL) != World(ALL), False)
        self.assertIs(World(ALL) == World(ALL, room=3), False)
        self.assertIs(World(ALL) != World(ALL[:2]), True)

    def test_same_book_by_other_rows(self):
        one = begun(("meet", ALL, 1), ("meet", ALL, 1), ("fold", "al", (0,), (1,)), ("drop", "bo", (0,)))
        other = begun(("meet", ALL, 1), ("meet", ALL, 1), ("drop", "bo", (0,)), ("fold", "al", (0,), (1,)))
        self.assertEqual(one.book_now(), other.book_now())
        self.assertIs(one == other, False)
        self.assertIs(one != other, True)

    def test_equal_by_other_ways(self):
        """What was undone, refused or asked isn't in the log."""
        one = begun(*ROWS)
        one.meet_now(ALL, 0)
        one.undo()
        refused(one.drop_now, "al", (9,))
        worldhand.looks(one)
        self.assertIs(one == begun(*ROWS), True)

    def test_other_things(self):
        rng = random.Random(441)
        for world in (World(ALL), begun(*ROWS)):
            things = [world.log(), list(world.log()), str(world), world.history_now(), len(world), None, True, 0, "",
            ()]
            for thing in things + [byhand.draw_thing(rng) for _ in range(200)]:
                self.assertIs(world == thing, False)
                self.assertIs(world != thing, True)
                self.assertIs(thing == world, False)
                self.assertIs(thing != world, True)


class Undo(unittest.TestCase):
    def test_each_kind(self):
        for many in range(len(ROWS), 0, -1):
            world = begun(*ROWS[:many])
            self.assertEqual(world.undo(), ROWS[many - 1])
            self.assertEqual(worldhand.looks(world), worldhand.looks(begun(*ROWS[:many - 1])))

    def test_one_by_one(self):
        world = begun(*ROWS)
        told = [world.undo() for _ in ROWS]
        self.assertEqual(told, list(ROWS[::-1]))
        self.assertTrue(world == World(ALL))
        self.assertEqual(worldhand.looks(world), worldhand.looks(World(ALL)))
        world.do_all(told[::-1])
        self.assertTrue(world == begun(*ROWS))

    def test_greet_takes_both_deeds(self):
        world = begun(*ROWS[:5])
        self.assertEqual(len(world.history_now()[2]), 6)
        world.undo()
        self.assertEqual(len(world.history_now()[2]), 4)
        self.assertEqual(len(world.visits()), 1)

    def test_none(self):
        for world in (World(ALL), begun(ROWS[0])):
            while len(world):
                world.undo()
            for _ in range(2):
                with self.assertRaises(NoStep) as caught:
                    world.undo()
                self.assertEqual(caught.exception.number, 0)
            self.assertEqual(worldhand.looks(world), worldhand.looks(World(ALL)))

    def test_drawn(self):
        rng = random.Random(442)
        kinds = collections.Counter()
        for _ in range(40):
            world, hand = worldhand.draw_world(rng)
            rows = list(hand.rows)
            while rows:
                row = rows.pop()
                self.assertEqual(world.undo(), row)
                kinds[row[0]] += 1
                told = World(hand.hands, room=hand.room)
                told.do_all(rows)
                lot = byhand.draw_lot(rng, told.history_now())
                self.assertTrue(world == told)
                self.assertEqual(worldhand.looks(world, (lot,)), worldhand.looks(told, (lot,)))
        self.assertEqual(len(kinds), 6)


class DoAll(unittest.TestCase):
    def test_how_many(self):
        for rows in (ROWS, list(ROWS), (), [], ROWS[:3]):
            for keep in ({}, {"keep": True}, {"keep": False}):
                world = World(ALL)
                told = world.do_all(rows, **keep)
                self.assertEqual(told, len(rows))
                self.assertIs(type(told), int)
                self.assertTrue(world == begun(*rows))
                self.assertEqual(world.walks(), 0)
        world = begun(*ROWS[:2])
        self.assertEqual(world.do_all(keep=True, rows=ROWS[2:]), len(ROWS) - 2)
        self.assertTrue(world == begun(*ROWS))
        with self.assertRaises(TypeError):
            world.do_all((), True)

    def test_refused(self):
        barred = ("drop", "cy", (1,))
        for kind in (tuple, list):
            for at in range(len(ROWS) - 1):
                rows = kind((*ROWS[2:2 + at], barred, *ROWS[2 + at:]))
                for keep, left in (({}, 0), ({"keep": False}, 0), ({"keep": True}, at)):
                    world = begun(*ROWS[:2])
                    with self.assertRaises(NoDeed) as caught:
                        world.do_all(rows, **keep)
                    self.assertEqual((caught.exception.deed, caught.exception.why), (barred, "word"))
                    self.assertEqual(worldhand.looks(world), worldhand.looks(begun(*ROWS[:2 + left])))
                    self.assertTrue(world == begun(*ROWS[:2 + left]))
                    self.assertEqual(world.walks(), 0)

    def test_first_refusal_comes(self):
        world = begun(*ROWS[:2])
        told = refused(world.do_all, [ROWS[2], ("say", "zed", (9,)), ("drop", "al", (9,))])
        self.assertEqual(told, ("NoDeed", ("say", "zed", (9,)), "hand"))

    def test_half_a_greet(self):
        row = ("greet", "al", "cy", ((0,),), (1,), ((1,),), (0,))
        for keep, left in ((False, 2), (True, 3)):
            world = begun(*ROWS[:2])
            # Behind the say of (0, 1) cy makes (1,), too.
            self.assertEqual(refused(world.do_all, (ROWS[2], row), keep=keep), 2)
            world = begun(*ROWS[:2])
            told = refused(world.do_all, (("drop", "bo", (1,)), row), keep=keep)
            self.assertEqual(told, ("NoDeed", ("ask", "cy", "al", (), ((1,),)), "word"))
            self.assertEqual(len(world), left)
            self.assertEqual(len(world.history_now()[2]), left)

    def test_drawn(self):
        rng = random.Random(443)
        seen = collections.Counter()
        for _ in range(120):
            world, hand = worldhand.draw_world(rng)
            before = worldhand.looks(world)
            rows = [row for row in (worldhand.draw_row(rng, hand) for _ in range(rng.randint(0, 4))) if row]
            keep = rng.random() < 0.5
            told = refused(world.do_all, rows, keep=keep)
            done = [hand.go(row) for row in rows[:1]]
            for row in rows[1:]:
                if not self.was_refused(done[-1]):
                    done.append(hand.go(row))
            if done and self.was_refused(done[-1]):
                self.assertEqual(told, done[-1])
                self.assertEqual(world.log() if keep else worldhand.looks(world), hand.log() if keep else before)
                seen["kept" if keep else "left", len(done) > 1] += 1
            else:
                self.assertEqual(told, len(rows))
                self.assertEqual(world.log(), hand.log())
                seen["done"] += 1
            self.assertEqual(world.walks(), 0)
        self.assertGreater(min(seen.values()), 3)
        self.assertEqual(len(seen), 5)

    def was_refused(self, told):
        return isinstance(told, tuple) and told[:1] == ("NoDeed",)
