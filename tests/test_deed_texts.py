import random
import unittest

from metbefore.bookkinds import is_deed
from metbefore.deedreadings import deed_read, history_read
from metbefore.deedtexts import deed_line, history_text
from metbefore.errors import NoText
from metbefore.histories import is_history
from tests import byhand, linehand
from tests.byhand import asked, refused

BIG = "9" * 60
LINES = (
    ("meet ann,bob", ("meet", ("ann", "bob"))), ("fold ann 0 1+2", ("fold", "ann", (0,), (1, 2))),
    ("ask ann bob - 0,3+5", ("ask", "ann", "bob", (), ((0,), (3, 5)))), ("meet a", ("meet", ("a",))),
    ("drop bob 0+12", ("drop", "bob", (0, 12))), ("say abcdefgh 7", ("say", "abcdefgh", (7,))),
    ("fold ann 1+2 0", ("fold", "ann", (1, 2), (0,))), ("drop ann " + BIG, ("drop", "ann", (int(BIG),))),
    ("ask bob bob 3,1,2 1", ("ask", "bob", "bob", ((3,), (1,), (2,)), ((1,),))),
    ("ask ann bob 5,4,3,2,1 4,3,2,1", ("ask", "ann", "bob", ((5,), (4,), (3,), (2,), (1,)), ((4,), (3,), (2,), (1,)))),
)
TEXT = "4 ann,bob\nmeet ann,bob\nask ann bob - 0"
TRIPLE = (4, ("ann", "bob"), (("meet", ("ann", "bob")), ("ask", "ann", "bob", (), ((0,),))))


class DeedLine(unittest.TestCase):
    def test_told(self):
        for line, deed in LINES:
            told = asked(deed_line, deed)
            self.assertEqual(told, line)
            self.assertIs(type(told), str)
        self.assertEqual(deed_line(deed=("meet", ("ann",))), "meet ann")


class DeedRead(unittest.TestCase):
    def test_told(self):
        for line, deed in LINES:
            told = asked(deed_read, line)
            self.assertEqual(told, deed)
            self.assertTrue(byhand.plain(told))
            self.assertIs(is_deed(told), True)
        self.assertEqual(deed_read(line=2, text="meet ann"), ("meet", ("ann",)))

    def test_no_text(self):
        for text, place in (
            ("", 0), (" ", 0), ("Meet ann", 0), ("meet", 1), ("meet ", 1), (" meet ann", 0), ("meet  ann", 1),
            ("meet ann ", 2),
            ("meet ann bob", 2), ("meet bob,ann", 1), ("meet ann,ann", 1), ("meet ann,", 1), ("meet ,ann", 1),
            ("meet Ann", 1),
            ("meet abcdefghi", 1), ("meet -", 1), ("meet ann,bob 1", 2), ("meet ann\n", 1), ("\nmeet ann", 0),
            ("meet\nann", 0),
            ("fold", 1), ("fold ann", 2), ("fold ann 0", 3), ("fold ann 0 0", 3), ("fold ann 1+2 1+2", 3),
            ("fold ann . 0", 2),
            ("fold ann 0 .", 3), ("fold ann 0 1 2", 4), ("fold ann,bob 0 1", 1), ("fold ann 0 00", 3),
            ("fold ann 0 2+1", 3),
            ("fold ann 0,1", 2), ("drop", 1), ("drop ann", 2), ("drop ann .", 2), ("drop ann -", 2),
            ("drop ann 0 1", 3),
            ("drop ann 0,1", 2), ("drop 0 ann", 1), ("drop ann 01", 2), ("drop ann 1" + "0" * 60, 2), ("say", 1),
            ("say ann", 2),
            ("say ann .", 2), ("say ann 0 ", 3), ("say  ann 0", 1), ("say ann  0", 2), ("ask", 1), ("ask ann", 2),
            ("ask ann bob", 3), ("ask ann bob -", 4), ("ask ann bob - -", 4), ("ask ann bob - .", 4),
            ("ask ann bob . 0", 3),
            ("ask ann bob 0,0 1", 3), ("ask ann bob 0 1,1", 4), ("ask ann bob - 0,1,2,3,4", 4),
            ("ask ann bob - 0,1 01", 5),
            ("ask ann,bob cy - 0", 1), ("ask ann - 0", 2), ("ask ann bob 0,., 1", 3), ("ask ann bob 0 1,.", 4),
            ("ask ann bob 0,-, 1", 3), ("ask ann bob -,0 1", 3), ("greet ann bob 0 1 1 0", 0), ("world 4 ann,bob", 0),
            ("4 ann,bob", 0), ("undo", 0), ("meet 0", 1), ("say Ann 0", 1), ("ask ann bob - 0 -", 5),
            ("say ann 0\n", 2),
        ):
            self.assertEqual(refused(deed_read, text), ("NoText", 0, place), text)
            self.assertEqual(refused(deed_read, text, line=9), ("NoText", 9, place), text)

    def test_the_very_line(self):
        line = 10 ** 59
        with self.assertRaises(NoText) as caught:
            deed_read("x", line=line)
        self.assertIs(caught.exception.line, line)
        with self.assertRaises(TypeError):
            deed_read("x", 0)

    def test_one_sign_otherwise(self):
        read = 0
        for text, _ in LINES[:5]:
            for other in linehand.every_other(text):
                read += self.check(other)
        self.assertGreater(read, 200)

    def check(self, text):
        """The same as by hand; what is read is written as the same text."""
        by_hand = linehand.line(text, linehand.DEEDS)
        told = refused(deed_read, text)
        if isinstance(by_hand, int):
            self.assertEqual(told, ("NoText", 0, by_hand), text)
            return False
        self.assertEqual(told, by_hand, text)
        self.assertEqual(deed_line(told), text)
        return True

    def test_drawn_there_and_back(self):
        rng = random.Random(411)
        seen = {True: 0, False: 0}
        for _ in range(150):
            history, _, _ = byhand.draw_shared(rng, asks=3)
            for deed in history[2]:
                self.assertEqual(deed_read(asked(deed_line, deed)), deed)
                seen[self.check(linehand.otherwise(rng, deed_line(deed)))] += 1
        self.assertGreater(min(seen.values()), 50)


class HistoryText(unittest.TestCase):
    def test_told(self):
        self.assertEqual(asked(history_text, TRIPLE), TEXT)
        self.assertEqual(asked(history_text, (1, ("a", "b", "c"), ())), "1 a,b,c")
        self.assertEqual(history_text(history=(10 ** 59, ("a", "b"), ())), "1" + "0" * 59 + " a,b")


class HistoryRead(unittest.TestCase):
    def test_told(self):
        self.assertEqual(asked(history_read, TEXT), TRIPLE)
        self.assertEqual(asked(history_read, "1 a,b,c"), (1, ("a", "b", "c"), ()))
        self.assertEqual(history_read(text=BIG + " ann,bob"), (int(BIG), ("ann", "bob"), ()))

    def test_by_kind_alone(self):
        text = "1 ann,bob\nsay zed 9\nask ann ann 1 1\ndrop bob 0"
        told = asked(history_read, text)
        self.assertEqual(told[2], (("say", "zed", (9,)), ("ask", "ann", "ann", ((1,),), ((1,),)),
        ("drop", "bob", (0,))))
        self.assertIs(is_history(told), False)
        self.assertEqual(history_text(told), text)

    def test_no_text(self):
        for text, line, place in (
            ("", 0, 0), (" ", 0, 0), ("\n", 0, 0), ("4", 0, 1), ("4 ", 0, 1), ("4 ann", 0, 1), ("0 ann,bob", 0, 0),
            ("00 ann,bob", 0, 0), ("04 ann,bob", 0, 0), ("-4 ann,bob", 0, 0), ("x ann,bob", 0, 0), ("4 bob,ann", 0, 1),
            ("4 ann,ann", 0, 1), ("4 ann,bob ", 0, 2), ("4  ann,bob", 0, 1), (" 4 ann,bob", 0, 0),
            ("4 ann,bob cy", 0, 2),
            ("4 ann, bob", 0, 1), ("1" + "0" * 60 + " ann,bob", 0, 0), ("4 ann,bob\n", 1, 0), ("4 ann,bob\n\n", 1, 0),
            ("4 ann,bob\nmeet ann\n", 2, 0), ("4 ann,bob\n\nmeet ann", 1, 0), ("4 ann,bob\nmeet ann\nsay ann", 2, 2),
            ("4 ann,bob\nmeet ann\nmeet bob,ann\nx", 2, 1), ("4 ann,bob\nfold ann 0 0", 1, 3), ("meet ann", 0, 0),
            ("world 4 ann,bob", 0, 0), ("4 ann,bob\n4 ann,bob", 1, 0), ("4\nmeet ann", 0, 1),
            ("4 ann,bob\nmeet ann ", 1, 2),
            ("4 Ann,bob", 0, 1), ("4 ann,bob\nmeet  ann", 1, 1), ("True ann,bob", 0, 0),
            ("4 ann,bob\r\nmeet ann", 0, 1),
        ):
            self.assertEqual(refused(history_read, text), ("NoText", line, place), text)

    def test_one_sign_otherwise(self):
        read = 0
        for text in (TEXT, "4 ann,bob"):
            for other in linehand.every_other(text):
                read += self.check(other)
        self.assertGreater(read, 200)

    def check(self, text):
        lines = text.split("\n")
        told = refused(history_read, text)
        first = linehand.things(lines[0].split(" "), "ME")
        parts = [first] + [linehand.line(line, linehand.DEEDS) for line in lines[1:]]
        for line, part in enumerate(parts):
            if isinstance(part, int):
                self.assertEqual(told, ("NoText", line, part), text)
                return False
        self.assertEqual(told, (*first, tuple(parts[1:])), text)
        self.assertEqual(history_text(told), text)
        return True

    def test_drawn_there_and_back(self):
        rng = random.Random(412)
        seen = {True: 0, False: 0}
        for _ in range(200):
            history, _ = byhand.draw_history(rng)
            text = asked(history_text, history)
            self.assertEqual(text.count("\n"), len(history[2]))
            self.assertEqual(asked(history_read, text), history)
            seen[self.check(linehand.otherwise(rng, text))] += 1
        self.assertGreater(min(seen.values()), 20)
