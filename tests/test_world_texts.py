import random
import unittest

from metbefore.errors import NoText
from metbefore.worldlogs import is_log
from metbefore.worldreadings import read_log, read_row
from metbefore.worldtexts import log_lines, row_line
from tests import byhand, linehand, worldhand
from tests.byhand import asked, refused

BIG = "9" * 60
LINES = (
    ("meet ann,bob 1", ("meet", ("ann", "bob"), 1)), ("fold ann 0 1+2", ("fold", "ann", (0,), (1, 2))),
    ("say bob 0+1", ("say", "bob", (0, 1))), ("drop bob 12", ("drop", "bob", (12,))), ("meet a 0", ("meet", ("a",), 0)),
    ("ask ann bob - 0,1+2 01", ("ask", "ann", "bob", (), ((0,), (1, 2)), (0, 1))),
    ("greet ann bob 0 1 1+2 0", ("greet", "ann", "bob", ((0,),), (1,), ((1, 2),), (0,))),
    ("ask a a 3,1 2 1", ("ask", "a", "a", ((3,), (1,)), ((2,),), (1,))),
    ("greet b a 3,2,1,0 0110 0,5 10",
    ("greet", "b", "a", ((3,), (2,), (1,), (0,)), (0, 1, 1, 0), ((0,), (5,)), (1, 0))),
    ("say zed " + BIG, ("say", "zed", (int(BIG),))),
)
FIRST = ("world 4 ann,bob,cy", ("world", 4, ("ann", "bob", "cy")))


class Written(unittest.TestCase):
    def test_row_line(self):
        for line, row in LINES:
            told = asked(row_line, row)
            self.assertEqual(told, line)
            self.assertIs(type(told), str)
        self.assertEqual(row_line(row=("meet", ("ann",), 0)), "meet ann 0")

    def test_log_lines(self):
        log = (FIRST[1], *[row for _, row in LINES])
        told = asked(log_lines, log)
        self.assertIs(type(told), list)
        self.assertEqual(told, [FIRST[0], *[line for line, _ in LINES]])
        self.assertEqual(log_lines(log=(FIRST[1],)), [FIRST[0]])
        told.clear()
        self.assertEqual(len(log_lines(log)), 1 + len(LINES))


class ReadRow(unittest.TestCase):
    def test_told(self):
        for line, row in LINES:
            told = asked(read_row, line)
            self.assertEqual(told, row)
            self.assertTrue(byhand.plain(told))
            self.assertIs(is_log((FIRST[1], told)), True)
        self.assertEqual(read_row(text="meet ann 0"), ("meet", ("ann",), 0))

    def test_no_text(self):
        for text, place in (
            ("", 0), (" ", 0), (FIRST[0], 0), ("world", 0), ("undo", 0), ("Meet ann 1", 0), ("meet", 1),
            ("meet ann", 2),
            ("meet ann 2", 2), ("meet ann 01", 2), ("meet ann 1 0", 3), ("meet ann  1", 2), ("meet ann 1 ", 3),
            (" meet ann 1", 0),
            ("meet bob,ann 1", 1), ("meet ann, 1", 1), ("meet - 1", 1), ("meet ann -", 2), ("meet ann\n1", 1),
            ("meet ann 1\n", 2),
            ("fold ann 0 0", 3), ("fold ann 0", 3), ("fold ann . 0", 2), ("fold ann 0 1 2", 4), ("drop ann .", 2),
            ("drop ann", 2),
            ("say ann 0,1", 2), ("say ann -", 2), ("say 0 ann", 1), ("ask ann bob - 0", 5), ("ask ann bob - 0 01", 5),
            ("ask ann bob - 0,1 0", 5), ("ask ann bob - 0,1 02", 5), ("ask ann bob - 0,1 -1", 5),
            ("ask ann bob - 0,1 011", 5),
            ("ask ann bob - - 0", 4), ("ask ann bob . 0 0", 3), ("ask ann bob 0,0 1 0", 3), ("ask ann bob - 0,0 00", 4),
            ("ask ann bob - 0,1,2,3,4 00000", 4), ("ask ann bob 0 0", 5), ("ask ann bob - 0,1 0 1", 5),
            ("ask ann bob - 0 0 0", 6),
            ("ask ann bob - 0 ", 5), ("ask ann 0 - 0 0", 2), ("greet ann bob 0 1 1+2", 6),
            ("greet ann bob 0 1 1+2 00", 6),
            ("greet ann bob 0 1", 5), ("greet ann bob 0 11 1 0", 4), ("greet ann bob - 1 1 0", 3),
            ("greet ann bob 0 1 - 0", 5),
            ("greet ann bob - 0 1 1 0", 3), ("greet ann bob 0 1 1 0 0", 7), ("greet ann bob 0,1 1 1 0", 4),
            ("greet", 1),
            ("greet ann bob 0 1 1,2 0", 6), ("say ann 1" + "0" * 60, 2), ("say ann 00", 2),
            ("greet ann,bob 0 1 1 0", 1),
        ):
            self.assertEqual(refused(read_row, text), ("NoText", 0, place), text)

    def test_one_sign_otherwise(self):
        read = 0
        for text, _ in LINES[:7]:
            for other in linehand.every_other(text):
                read += self.check(other)
        self.assertGreater(read, 300)
        for other in linehand.every_other(FIRST[0]):
            self.assertFalse(self.check(other))

    def check(self, text):
        by_hand = linehand.line(text, linehand.ROWS)
        told = refused(read_row, text)
        if isinstance(by_hand, int):
            self.assertEqual(told, ("NoText", 0, by_hand), text)
            return False
        self.assertEqual(told, by_hand, text)
        self.assertEqual(row_line(told), text)
        return True

    def test_drawn_there_and_back(self):
        rng = random.Random(461)
        seen = {True: 0, False: 0}
        for _ in range(80):
            _, hand = worldhand.draw_world(rng)
            for row in (*hand.rows, worldhand.draw_strange(rng, hand)):
                line = asked(row_line, row)
                self.assertEqual(asked(read_row, line), row)
                seen[self.check(linehand.otherwise(rng, line))] += 1
        self.assertGreater(min(seen.values()), 50)


class ReadLog(unittest.TestCase):
    def test_told(self):
        lines = [FIRST[0], *[line for line, _ in LINES]]
        told = asked(read_log, lines)
        self.assertEqual(told, (FIRST[1], *[row for _, row in LINES]))
        self.assertIs(type(told), tuple)
        self.assertEqual(read_log(lines=[FIRST[0]]), (FIRST[1],))
        self.assertEqual(read_log(["world " + BIG + " a,b"]), (("world", int(BIG), ("a", "b")),))

    def test_no_text(self):
        first = FIRST[0]
        for lines, line, place in (
            ([], 0, 0), ([""], 0, 0), (["world"], 0, 1), (["world 4"], 0, 2), (["world 0 a,b"], 0, 1),
            (["world 04 a,b"], 0, 1),
            (["world 4 a"], 0, 2), (["world 4 b,a"], 0, 2), (["world 4 a,a"], 0, 2), (["world 4 a,b "], 0, 3),
            (["world  4 a,b"], 0, 1), ([" world 4 a,b"], 0, 0), (["meet ann 1"], 0, 0), (["meet ann 1", first], 0, 0),
            (["world 4 a,b c"], 0, 3), (["world -4 a,b"], 0, 1), (["world 1" + "0" * 60 + " a,b"], 0, 1),
            (["4 a,b"], 0, 0),
            ([first, first], 1, 0), ([first, "meet ann 1", ""], 2, 0), ([first, "meet ann 1", "meet ann"], 2, 2),
            ([first, "meet ann 2", "meet ann"], 1, 2), ([first, "say ann .", first], 1, 2), ([first + "\n"], 0, 2),
            ([first, "meet ann 1", "greet ann bob 0 1 1+2 00", "x"], 2, 6), (["world 4 a,b", "undo"], 1, 0),
            (["World 4 a,b"], 0, 0), ([first + "\nmeet ann 1"], 0, 2),
        ):
            self.assertEqual(refused(read_log, lines), ("NoText", line, place), lines)
        with self.assertRaises(NoText):
            read_log([])

    def test_drawn_there_and_back(self):
        rng = random.Random(462)
        seen = {True: 0, False: 0}
        for _ in range(150):
            world, hand = worldhand.draw_world(rng, strange=True)
            lines = asked(log_lines, world.log())
            self.assertEqual(asked(read_log, lines), hand.log())
            self.assertEqual(str(world), " / ".join(lines))
            at = rng.randrange(len(lines))
            lines[at] = linehand.otherwise(rng, lines[at])
            seen[self.check(lines)] += 1
        self.assertGreater(min(seen.values()), 15)

    def check(self, lines):
        parts = [linehand.line(lines[0], linehand.WORLD), *[linehand.line(line, linehand.ROWS) for line in lines[1:]]]
        told = refused(read_log, lines)
        for line, part in enumerate(parts):
            if isinstance(part, int):
                self.assertEqual(told, ("NoText", line, part), lines)
                return False
        self.assertEqual(told, tuple(parts))
        self.assertEqual(log_lines(told), lines)
        return True

    def test_world_with_one_sign_otherwise(self):
        read = 0
        for other in linehand.every_other(FIRST[0]):
            read += self.check([other])
        self.assertGreater(read, 50)
