import collections
import random
import unittest

from metbefore.errors import NoDeed
from metbefore.replaying import replayed
from metbefore.worldlogs import is_log
from metbefore.worldreadings import read_log
from metbefore.worlds import World
from metbefore.worldtexts import log_lines
from tests import byhand, linehand, worldhand
from tests.byhand import asked, refused

WORLD = ("world", 4, ("ann", "bob"))
ROWS = (
    ("meet", ("ann", "bob"), 1), ("fold", "ann", (0,), (1, 2)), ("drop", "bob", (0, 7)), ("say", "zed", (3,)),
    ("ask", "ann", "bob", (), ((0,), (3, 5)), (0, 1)), ("greet", "ann", "bob", ((0,),), (1,), ((1, 2), (0,)), (0, 0)),
)
SIXTY = 10 ** 59


def formed(thing):
    """Whether it is a log, by what its lines are read as by hand."""
    if type(thing) is not tuple or not thing or not byhand.plain(thing):
        return False
    try:
        lines = log_lines(thing)
    except Exception:
        return False
    told = [linehand.line(lines[0], linehand.WORLD), *[linehand.line(line, linehand.ROWS) for line in lines[1:]]]
    return repr(tuple(told)) == repr(thing)


class IsLog(unittest.TestCase):
    def test_logs(self):
        for thing in (
            (WORLD,), (WORLD, *ROWS), (("world", 1, ("a", "b", "c")), ROWS[0]), (("world", SIXTY, ("a", "b")),),
            (WORLD, ("ask", "ann", "ann", (), ((0,),), (0,))),
            (WORLD, ("greet", "a", "a", ((0,),), (0,), ((0,),), (0,))),
            (WORLD, ("meet", ("zed",), 0)), (WORLD, ("ask", "a", "b", tuple((k,) for k in range(9)), ((0,),), (1,))),
            (WORLD, ("ask", "a", "b", ((0,),), ((0,), (1,), (2,), (SIXTY,)), (1, 0, 1, 0))), (WORLD, ROWS[0], ROWS[0]),
        ):
            self.assertIs(asked(is_log, thing), True, thing)
        self.assertIs(is_log(thing=(WORLD,)), True)

    def test_first_things_bent(self):
        for thing in (
            (), [WORLD], (list(WORLD),), WORLD, ("world",), (("world", 0, WORLD[2]),), (("world", True, WORLD[2]),),
            (("world", -1, WORLD[2]),), (("world", 4, ("ann",)),), (("world", 4, ()),), (("world", 4, ("bob", "ann")),),
            (("world", 4, ("ann", "ann")),), (("world", 4, ["ann", "bob"]),), (("world", 4, ("Ann", "bob")),),
            (("World", 4, WORLD[2]),), (("world", "4", WORLD[2]),), (("world", 4),), (("world", 4, WORLD[2], ()),),
            (ROWS[0],), (WORLD, WORLD), (ROWS[0], WORLD), None, True, 0, "", "world 4 ann,bob", ((),), (WORLD, ROWS),
            (("world", 4, (0, 1)),), (("world", None, WORLD[2]),), (("world", 4, None),), (("world", 4, "ann,bob"),),
            (("world", 4, (("ann",), "bob")),), (WORLD, [ROWS[0]]), (WORLD, ()), (WORLD, None), (WORLD, "meet ann 1"),
        ):
            self.assertIs(asked(is_log, thing), False, thing)

    def test_rows_bent(self):
        row = ((0,), (1,))
        for thing in (
            ("meet", ("ann",)), ("meet", (), 0), ("meet", ("ann",), 2), ("meet", ("ann",), True), ("meet", ["ann"], 0),
            ("meet", ("bob", "ann"), 0), ("meet", ("ann", "ann"), 0), ("meet", "ann", 0), ("meet", ("ann",), 0, 0),
            ("meet",),
            ("meet", ("ann",), (0,)), ("meet", ("Ann",), 0), ("meet", ("ann",), None), ("meet", ("ann",), -1),
            ("fold", "ann", (0,), (0,)), ("fold", "ann", (), (0,)), ("fold", "ann", (0,), ()), ("fold", "ann", (0,)),
            ("fold", ("ann",), (0,), (1,)), ("fold", "ann", (1, 0), (2,)), ("fold", "ann", (0,), (1,), (2,)),
            ("fold", "ann", [0], (1,)), ("drop", "ann", ()), ("drop", "ann"), ("drop", "ann", (0,), (1,)),
            ("drop", "A", (0,)),
            ("drop", "ann", (True,)), ("say", "ann", ()), ("say", "ann", 0), ("say", "ann", ((0,),)),
            ("say", (0,), "ann"),
            ("ask", "ann", "bob", (), row), ("ask", "ann", "bob", (), (), ()), ("ask", "ann", "bob", (), row, (0,)),
            ("ask", "ann", "bob", (), row, (0, 1, 0)), ("ask", "ann", "bob", (), row, (0, 2)),
            ("ask", "ann", "bob", row, (0, 1)),
            ("ask", "ann", "bob", (), row, (0, True)), ("ask", "ann", "bob", (), row, [0, 1]),
            ("ask", "ann", "bob", (), row, 0),
            ("ask", "ann", "bob", ((),), row, (0, 1)), ("ask", "ann", "bob", ((0,), (0,)), row, (0, 1)),
            ("ask", "ann", "bob", [], row, (0, 1)), ("ask", "ann", "bob", (), ((0,), (0,)), (0, 0)),
            ("ask", "ann", "bob", (), ((0,), ()), (0, 0)), ("ask", "ann", "bob", (), list(row), (0, 1)),
            ("ask", "ann", "bob", (), tuple((k,) for k in range(5)), (0,) * 5), ("ask", "ann", 0, (), row, (0, 1)),
            ("ask", "ann", "bob", (), row, (0, 1), ()), ("ask", None, "bob", (), row, (0, 1)),
            ("greet", "ann", "bob", row, (0, 1), row), ("greet", "ann", "bob", row, (0, 1), row, (0,)),
            ("greet", "ann", "bob", row, (0,), row, (0, 1)), ("greet", "ann", "bob", (), (), row, (0, 1)),
            ("greet", "ann", "bob", row, (0, 1), (), ()), ("greet", "ann", "bob", (), row, (0, 1), row, (0, 1)),
            ("greet", "ann", "B", row, (0, 1), row, (0, 1)), ("greet", "ann", "bob", row, (0, 1), ((),), (0,)),
            ("greet", "ann", "bob", row, (0, 1), tuple((k,) for k in range(5)), (0,) * 5), ("greet",), ("greet", "ann"),
            ("greet", "ann", "bob", row, (0, 1), row, (0, False)), ("undo",), ("count",), (None,), ((),), (0, 1),
            ("Say", "ann", (0,)),
        ):
            self.assertIs(asked(is_log, (WORLD, thing)), False, thing)
            self.assertIs(asked(is_log, (WORLD, *ROWS, thing)), False, thing)
            self.assertIs(asked(is_log, (WORLD, thing, *ROWS)), False, thing)

    def test_drawn_spoilt(self):
        rng = random.Random(451)
        seen = collections.Counter()
        for _ in range(2500):
            thing = byhand.spoilt(rng, (WORLD, rng.choice(ROWS), rng.choice(ROWS)))
            told = asked(is_log, thing)
            self.assertIs(told, formed(thing), thing)
            seen[told] += 1
        self.assertGreater(min(seen.values()), 100)
        for _ in range(600):
            thing = byhand.draw_thing(rng)
            for one in (thing, (thing,), (WORLD, thing), (("world", thing, WORLD[2]),), (("world", 4, thing),)):
                self.assertIs(asked(is_log, one), formed(one), one)

    def test_drawn_worlds(self):
        rng = random.Random(452)
        for _ in range(40):
            world, hand = worldhand.draw_world(rng, strange=True)
            self.assertIs(asked(is_log, world.log()), True)
            rows = tuple(worldhand.draw_strange(rng, hand) for _ in range(3))
            self.assertIs(asked(is_log, world.log() + rows), True)


class Replayed(unittest.TestCase):
    def test_told(self):
        log = (WORLD, ROWS[0], ("say", "ann", (0,)), ("ask", "bob", "ann", (), ((0,),), (0,)))
        world = asked(replayed, log)
        self.assertIs(type(world), World)
        self.assertEqual(world.log(), log)
        self.assertEqual(world.visits(), (("bob", "ann", ((0,),), False),))
        self.assertIsNot(replayed(log=log), world)
        self.assertTrue(replayed(log) == world)

    def test_without_rows(self):
        world = replayed((("world", 1, ("a", "b")),))
        self.assertTrue(world == World(("a", "b"), room=1))
        self.assertEqual(refused(world.undo), ("NoStep", 0))

    def test_first_refusal_comes(self):
        for rows, deed, why in (
            (ROWS, ("fold", "ann", (0,), (1, 2)), "word"), ((ROWS[0], ROWS[3], ROWS[1]), ("say", "zed", (3,)), "hand"),
            ((ROWS[0], ROWS[5]), ("ask", "bob", "ann", (), ((1, 2), (0,))), "word"),
            ((("ask", "ann", "ann", (), ((0,),), (0,)), ROWS[0]), ("ask", "ann", "ann", (), ((0,),)), "hand"),
            ((("meet", ("ann", "zed"), 0),), ("meet", ("ann", "zed")), "hand"), (ROWS[:1] * 5, ROWS[0][:2], "room"),
        ):
            log = (WORLD, *rows)
            self.assertIs(is_log(log), True)
            self.assertEqual(refused(replayed, log), ("NoDeed", deed, why))
        with self.assertRaises(NoDeed):
            replayed((WORLD, ROWS[1]))

    def test_drawn_the_same_and_goes_on_alike(self):
        rng = random.Random(453)
        for _ in range(60):
            world, hand = worldhand.draw_world(rng)
            told = asked(replayed, world.log())
            lots = [byhand.draw_lot(rng, hand.history()) for _ in range(2)]
            self.assertTrue(told == world)
            self.assertEqual(worldhand.looks(told, lots), worldhand.looks(world, lots))
            self.assertTrue(replayed(read_log(str(world).split(" / "))) == world)
            for _ in range(4):
                row = worldhand.draw_row(rng, hand)
                if row:
                    by_hand = hand.go(row)
                    self.assertEqual(worldhand.do(told, row), by_hand)
                    self.assertEqual(worldhand.do(world, row), by_hand)
                    self.assertTrue(told == world)
            self.assertEqual(worldhand.looks(told), worldhand.looks(world))
            if len(world):
                world.undo()
                self.assertFalse(told == world)

    def test_drawn_logs_that_cannot_be_done(self):
        rng = random.Random(454)
        seen = collections.Counter()
        for _ in range(200):
            hand = worldhand.Hand(byhand.NAMES[:3])
            rows = []
            told = None
            for _ in range(rng.randint(1, 8)):
                row = worldhand.draw_row(rng, hand) or worldhand.draw_strange(rng, hand)
                rows.append(row)
                told = hand.go(row)
                if isinstance(told, tuple) and told[0] == "NoDeed":
                    break
            log = (("world", 4, hand.hands), *rows)
            came = refused(replayed, log)
            if isinstance(came, World):
                self.assertEqual(came.log(), hand.log())
            else:
                self.assertEqual(came, told)
            seen[type(came)] += 1
        self.assertGreater(min(seen.values()), 20)
