import collections
import random
import unittest

from metbefore.errors import LackError, MetError, NoLine
from metbefore.worlddesk import Desk
from metbefore.worldlogs import is_log
from metbefore.worldreadings import read_log
from tests import byhand, linehand, worldhand
from tests.byhand import refused

MET = ("world 4 ann,bob,cy", "meet ann,bob,cy 1", "meet ann,bob 0", "meet ann,bob 1")


def desk_of(*rows):
    desk = Desk()
    for row in rows:
        desk.say(row)
    return desk


def words_text(pairs):
    return " ".join("+".join(map(str, word)) + f"={sign}" for word, sign in pairs) or "-"


def yes(truth):
    return "yes" if truth else "no"


class Desks(unittest.TestCase):
    def says(self, desk, *pairs):
        for row, told in pairs:
            self.assertEqual((row, desk.say(row)), (row, told))

    def refuses(self, desk, row, *refusal):
        """The line is refused so, and all is as it was."""
        log = desk.say("log") if self.has_world(desk) else None
        self.assertEqual((row, refused(desk.say, row)), (row, refusal))
        self.assertEqual(desk.say("log") if self.has_world(desk) else None, log)

    def has_world(self, desk):
        return refused(desk.say, "count") != ("NoLine", "count")

    def test_told_of_rows(self):
        self.says(
            desk_of(), ("world 4 ann,bob,cy", "ok"), ("meet ann,bob,cy 1", "0"), ("meet ann,bob 0", "1"),
            ("meet ann,bob 1", "2"),
            ("fold bob 0 2", "0+2"), ("say ann 0+1", "1"), ("say bob 0+2", "0"), ("ask ann bob - 0,1 10", "yes"),
            ("ask ann bob 1 0+2,0 11", "no"), ("greet ann bob 0 1 1 0", "yes yes"),
            ("greet bob ann 0 0 1,2 01", "no yes"),
            ("drop cy 0", "ok"), ("meet ann 0", "3"), ("fold ann 2 0", "0+2"),
        )
        self.assertEqual(Desk().say(row="world 1 a,b"), "ok")

    def test_looks(self):
        desk = desk_of(*MET)
        self.says(
            desk, ("purse ann", "0=1 1=0 2=1"), ("purse cy", "0=1"), ("board", "-"), ("visits", "-"),
            ("strengths -", "-"),
            ("strengths ann:0", "-"), ("count", "3"), ("log", " / ".join(MET)), ("sign ann 0", "1"),
            ("sign ann 0+2", "0"),
            ("sign cy 1", "-"), ("sign cy 0+1", "-"), ("sign cy .", "0"), ("sign cy 7", "-"),
            ("sign ann 1" + "0" * 59, "-"),
            ("say ann 0+1", "1"), ("board", "0+1=1"), ("sign cy 1", "0"), ("ask ann bob - 0,1 10", "yes"),
            ("visits", "ann bob yes"),
            ("strengths -", "1"), ("strengths cy:0", "0"), ("strengths cy:4", "0"), ("strengths cy:5", "1"),
            ("greet bob ann 2 0 0 1", "no yes"), ("visits", "ann bob yes / bob ann no / ann bob yes"), ("count", "6"),
            ("strengths -", "1 1 0"), ("strengths ann:5", "1 - -"), ("strengths ann:0,cy:0", "- - -"),
            ("strengths bob:6", "1 1 -"),
            ("board", "0=1 0+1=1 1=0 2=1"), ("drop cy 0", "ok"), ("purse cy", "-"), ("count", "7"),
            ("strengths cy:8", "1 1 0"),
        )

    def test_undo(self):
        rows = MET[1:] + (
            "fold ann 0 1", "greet ann bob 2 1 0+1 1", "say cy 0", "drop bob 1", "ask bob ann 0+1 2,0 11",
        )
        desk = desk_of(MET[0], *rows)
        for row in rows[::-1]:
            self.says(desk, ("undo", row))
        self.says(desk, ("count", "0"), ("log", MET[0]))
        self.refuses(desk, "undo", "NoStep", 0)
        self.says(desk, ("meet ann 1", "0"))

    def test_ahead_of_its_first_world(self):
        desk = Desk()
        for row in (
            "meet ann,bob 1", "fold ann 0 1", "drop ann 0", "say ann 0", "ask ann bob - 0 1", "greet ann bob 0 1 0 1",
            "undo",
            "count", "log", "purse ann", "board", "sign ann .", "visits", "strengths -", "strengths ann:0", "", "x",
            " ",
        ):
            self.assertEqual(refused(desk.say, row), ("NoLine", row))
        self.assertEqual(desk.say("world 4 ann,bob"), "ok")
        self.assertEqual(desk.say("count"), "0")

    def test_new_world_in_the_place_of_one(self):
        desk = desk_of(*MET)
        for row in ("world 0 ann,bob", "world 4 ann", "world 4 bob,ann", "world 4", "world", "world 4 ann,bob cy"):
            self.refuses(desk, row, "NoLine", row)
        self.says(desk, ("log", " / ".join(MET)), ("world 2 di,ed", "ok"), ("log", "world 2 di,ed"), ("count", "0"))
        self.refuses(desk, "purse ann", "NoHand", "ann")
        self.says(desk, ("meet di,ed 1", "0"), ("world 2 di,ed", "ok"), ("count", "0"), ("purse di", "-"))

    def test_no_line(self):
        desk = desk_of(*MET, "ask ann bob - 0 1")
        for row in (
            "", " ", "x", "Undo", "undo ", " undo", "undo 1", "count  ", "log\n", "logs", "board ann", "visits -",
            "purse",
            "purse ", "purse ann,bob", "purse Ann", "purse  ann", "purse ann ", "purse ann bob", "purse abcdefghi",
            "sign", "sign ann",
            "sign ann 0,1", "sign ann -", "sign ann 1+0", "sign ann 00", "sign ann 1" + "0" * 60, "sign ann  0",
            "sign ann 0 ", "sign 0",
            "sign ann 0 1", "strengths", "strengths  -", "strengths - ", "strengths ann", "strengths ann:",
            "strengths :0",
            "strengths ann:01", "strengths ann:0,", "strengths ann:0,ann:1", "strengths bob:0,ann:0",
            "strengths ann:0 bob:0",
            "strengths ann:-1", "strengths ann:x", "strengths ann:5", "strengths ann:0,bob:5", "strengths ann:0,bob:00",
            "strengths Ann:0", "strengths ann:0:0", "strengths ann,bob:0", "strengths ann:1" + "0" * 60,
            "strengths ann:0, bob:0",
            "strengths ann:0,bob:0,bob:1", "strengths .", "strengths -,ann:0", "strengths zed:0,ann:0",
            "strengths zed:5",
            "strengths ann:0,zed:5", "strengths ann:" + "9" * 60, "meet ann", "meet ann 2", "meet  ann 1",
            "meet ann 1 ", "say ann .",
            "ask ann bob - 0 11", "greet ann bob 0 1 0", "fold ann 0 0", "drop ann", "world 4 ann", "undo\n",
            "count / log",
        ):
            self.refuses(desk, row, "NoLine", row)
        text = "".join(("un", "done"))
        with self.assertRaises(NoLine) as caught:
            desk.say(text)
        self.assertIs(caught.exception.row, text)

    def test_as_the_world_refuses(self):
        desk = desk_of(*MET, "say ann 0")
        for row, *refusal in (
            ("meet ann,zed 1", "NoDeed", ("meet", ("ann", "zed")), "hand"),
            ("say bob 0", "NoDeed", ("say", "bob", (0,)), "there"),
            ("fold cy 0 1", "NoDeed", ("fold", "cy", (0,), (1,)), "word"),
            ("drop cy 1", "NoDeed", ("drop", "cy", (1,)), "word"),
            ("ask ann ann - 0 1", "NoDeed", ("ask", "ann", "ann", (), ((0,),)), "hand"),
            ("ask ann cy 0 1 1", "NoDeed", ("ask", "ann", "cy", ((0,),), ((1,),)), "word"),
            ("greet ann cy 0 1 1 1", "NoDeed", ("ask", "cy", "ann", (), ((1,),)), "word"),
            ("purse zed", "NoHand", "zed"), ("sign zed .", "NoHand", "zed"), ("sign zed 0", "NoHand", "zed"),
            ("strengths zed:0", "NoHand", "zed"), ("strengths ann:0,dan:0,zed:0", "NoHand", "dan"),
            ("strengths a:4,b:0", "NoHand", "a"),
        ):
            self.refuses(desk, row, *refusal)
        desk = desk_of("world 1 ann,bob", "meet ann 0")
        self.refuses(desk, "meet ann,bob 1", "NoDeed", ("meet", ("ann", "bob")), "room")

    def test_strange_texts(self):
        rng = random.Random(471)
        desk = desk_of(*MET)
        for _ in range(500):
            row = "".join(rng.choice(linehand.SIGNS) for _ in range(rng.choice((3, 10, 40))))
            if isinstance(linehand.line(row, linehand.DESK), int):
                self.assertEqual(refused(desk.say, row), ("NoLine", row))
        self.refuses(desk, "x" * 4000, "NoLine", "x" * 4000)

    def test_two_desks_have_nothing_in_common(self):
        one, other = Desk(), Desk()
        one.say("world 4 ann,bob")
        self.assertEqual(refused(other.say, "count"), ("NoLine", "count"))
        other.say("world 4 ann,bob")
        one.say("meet ann,bob 1")
        self.assertEqual(other.say("count"), "0")
        self.assertIn("say", vars(Desk))
        self.assertIn("__init__", vars(Desk))


class AgainstWorlds(unittest.TestCase):
    """Desks against worlds by hand, of whose log each is replayed, too."""

    def told(self, hand, told):
        """How what is told of a row is written."""
        if told is None:
            return "ok"
        if isinstance(told, bool):
            return yes(told)
        if isinstance(told, int):
            return str(told)
        if isinstance(told[0], bool):
            return " ".join(map(yes, told))
        return "+".join(map(str, told))

    def looks(self, rng, hand):
        """Lines that only ask, and what is told of them."""
        lot = byhand.draw_lot(rng, hand.history())
        name = rng.choice(hand.hands)
        word = byhand.word(rng.randrange(1 << (len(hand.signs) + 1)))
        sign = hand.sign_for(name, word)
        visits = [f"{door} {guest} {yes(truth)}" for door, guest, _, truth in hand.visits]
        strengths = ["-" if strength is None else str(strength) for strength in hand.strengths(lot)]
        return (
            ("count", str(len(hand.rows))), ("purse " + name, words_text(hand.seen(name)[0])),
            ("board", words_text(hand.seen(name)[1])), ("visits", " / ".join(visits) or "-"),
            (f"sign {name} " + ("+".join(map(str, word)) or "."), "-" if sign is None else str(sign)),
            ("strengths " + (",".join(f"{one}:{since}" for one, since in lot) or "-"), " ".join(strengths) or "-"),
        )

    def test_drawn(self):
        rng = random.Random(472)
        seen = collections.Counter()
        for _ in range(60):
            hand = worldhand.Hand(byhand.NAMES[:rng.randint(2, 4)], rng.choice((1, 2, 4, 4)))
            desk = desk_of(f"world {hand.room} {','.join(hand.hands)}")
            for _ in range(12):
                row = worldhand.draw_row(rng, hand)
                if row is None:
                    continue
                line = self.line(row)
                came, told = refused(desk.say, line), hand.go(row)
                if isinstance(told, tuple) and told[0] == "NoDeed":
                    self.assertEqual(came, told)
                else:
                    self.assertEqual((line, came), (line, self.told(hand, told)))
                for look, answer in self.looks(rng, hand):
                    self.assertEqual((look, desk.say(look)), (look, answer))
                    seen[look.split(" ")[0], answer == "-"] += 1
                log = desk.say("log")
                self.assertEqual(read_log(log.split(" / ")), hand.log())
                self.assertIs(is_log(hand.log()), True)
                if rng.random() < 0.1 and hand.rows:
                    self.undo(desk, hand)
        self.assertGreater(min(seen[word, void] for word in ("purse", "board", "visits", "sign") for void in (0, 1)),
        20)

    def undo(self, desk, hand):
        """The last row is undone; the world by hand is gone through anew."""
        rows = hand.rows
        self.assertEqual(desk.say("undo"), self.line(rows[-1]))
        hand.__init__(hand.hands, hand.room)
        for row in rows[:-1]:
            hand.go(row)

    def line(self, row):
        """The line of a row, by hand."""
        parts = []
        for thing in row:
            if isinstance(thing, tuple):
                if thing and isinstance(thing[0], str):
                    parts.append(",".join(thing))
                elif thing and isinstance(thing[0], int):
                    signs = row[0] in ("ask", "greet")
                    parts.append(("" if signs else "+").join(map(str, thing)))
                else:
                    parts.append(",".join("+".join(map(str, word)) for word in thing) or "-")
            else:
                parts.append(str(thing))
        return " ".join(parts)

    def test_drawn_one_sign_otherwise(self):
        rng = random.Random(473)
        seen = collections.Counter()
        for _ in range(60):
            world, hand = worldhand.draw_world(rng)
            lines = str(world).split(" / ")
            for _ in range(6):
                desk = desk_of(*lines)
                name = rng.choice(hand.hands)
                good = rng.choice((rng.choice(lines), f"sign {name} 0+1", f"strengths {name}:1", "purse " + name,
                "undo", "visits"))
                row = linehand.otherwise(rng, good)
                written = linehand.line(row, linehand.DESK)
                came = refused(desk.say, row)
                if isinstance(written, int):
                    self.assertEqual(came, ("NoLine", row))
                elif came == ("NoLine", row):
                    self.assertGreater(max(since for _, since in written[1]), len(hand.deeds))
                else:
                    self.assertTrue(isinstance(came, str) or came[0] in ("NoDeed", "NoHand", "NoStep"))
                seen[came[0] if isinstance(came, tuple) else "told"] += 1
        self.assertGreater(min(seen["NoLine"], seen["told"], seen["NoDeed"], seen["NoHand"]), 3)

    def test_refusals_are_the_worlds(self):
        desk = desk_of(*MET)
        with self.assertRaises(MetError):
            desk.say("drop cy 9")
        with self.assertRaises(LackError):
            desk.say("purse zed")
