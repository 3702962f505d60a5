import collections
import random
import unittest

from metbefore.errors import NoDeed, NoHand
from metbefore.histories import is_history, last_book
from metbefore.ledgers import ledger_of
from metbefore.worlds import World
from tests import byhand, worldhand
from tests.byhand import refused

ALL = ("al", "bo", "cy")


def begun(*rows, hands=ALL, **named):
    """A world in which these rows were done."""
    world = World(hands, **named)
    world.do_all(rows)
    return world


MET = (("meet", ALL, 1), ("meet", ("al", "bo"), 0), ("meet", ("al", "bo"), 1))


class Deeds(unittest.TestCase):
    def refuses(self, world, row, deed, why):
        """The deed is refused, and all is as it was."""
        before = worldhand.looks(world)
        self.assertEqual(worldhand.do(world, row), ("NoDeed", deed, why))
        self.assertEqual(worldhand.looks(world), before)

    def test_made(self):
        for world, room in ((World(ALL), 4), (World(hands=ALL), 4), (World(ALL, room=1), 1),
        (World(room=9, hands=ALL), 9)):
            self.assertEqual(world.history_now(), (room, ALL, ()))
            self.assertEqual(world.book_now(), (room, ALL, (), ((), (), ()), ()))
            self.assertEqual(world.signs_now(), ())
            self.assertEqual(world.visits(), ())
            self.assertEqual(world.log(), (("world", room, ALL),))
        with self.assertRaises(TypeError):
            World(ALL, 4)

    def test_each_method_stands_in_the_class(self):
        for name in (
            "__init__", "__len__", "__str__", "__eq__", "__ne__", "meet_now", "fold_now", "drop_now", "say_now",
            "ask_now",
            "greet_now", "history_now", "book_now", "signs_now", "seen_by", "sign_for", "visits", "visit_strengths",
            "as_if",
            "log", "undo", "do_all", "walks",
        ):
            self.assertIn(name, vars(World))

    def test_meet(self):
        world = World(ALL, room=2)
        self.assertEqual(world.meet_now(("al", "bo"), 1), 0)
        self.assertEqual(world.meet_now(sign=0, hands=("al",)), 1)
        self.assertIs(type(world.meet_now(("bo", "cy"), 1)), int)
        self.assertEqual(world.signs_now(), (1, 0, 1))
        self.refuses(world, ("meet", ALL, 0), ("meet", ALL), "room")
        self.refuses(world, ("meet", ("al", "zed"), 0), ("meet", ("al", "zed")), "hand")
        self.assertEqual(world.meet_now(("cy",), 0), 3)

    def test_fold(self):
        world = begun(*MET)
        self.assertEqual(world.fold_now("al", (0,), (2,)), (0, 2))
        self.assertEqual(world.fold_now(other=(1,), one=(0, 2), hand="al"), (0, 1, 2))
        self.refuses(world, ("fold", "al", (0,), (2,)), ("fold", "al", (0,), (2,)), "word")
        self.refuses(world, ("fold", "zed", (0,), (2,)), ("fold", "zed", (0,), (2,)), "hand")
        self.refuses(world, ("fold", "cy", (1,), (0,)), ("fold", "cy", (1,), (0,)), "word")
        self.assertEqual(world.sign_for("al", (0, 1, 2)), 0)

    def test_drop(self):
        world = begun(*MET)
        self.assertIsNone(world.drop_now("al", (0,)))
        self.assertIsNone(world.drop_now(word=(1,), hand="al"))
        self.refuses(world, ("drop", "al", (0,)), ("drop", "al", (0,)), "word")
        self.refuses(world, ("drop", "zed", (2,)), ("drop", "zed", (2,)), "hand")
        self.assertEqual(world.seen_by("al"), ((((2,), 1),), ()))

    def test_say(self):
        world = begun(*MET)
        for word, sign in (((0,), 1), ((0, 1), 1), ((0, 2), 0), ((1,), 0)):
            told = world.say_now("al", word)
            self.assertEqual((word, told), (word, sign))
            self.assertIs(type(told), int)
        self.assertEqual(world.say_now(word=(0, 1, 2), hand="bo"), 0)
        self.refuses(world, ("say", "bo", (0,)), ("say", "bo", (0,)), "there")
        self.refuses(world, ("say", "bo", (3,)), ("say", "bo", (3,)), "word")
        self.refuses(world, ("say", "zed", (0,)), ("say", "zed", (0,)), "hand")

    def test_ask(self):
        rows = (((0,), (1,), (0, 2)), ((1,),))
        for row, answers, truth in (
            (rows[0], (1, 0, 0), True), (rows[0], (1, 0, 1), False), (rows[0], (0, 1, 1), False), (rows[1], (0,), True),
            (rows[0], (0, 0, 0), False), (rows[1], (1,), False),
        ):
            for shown in ((), ((0, 1),)):
                world = begun(*MET)
                self.assertIs(world.ask_now("al", "bo", row, answers, shown=shown), truth)
                self.assertEqual(world.visits(), (("al", "bo", row, truth),))
                # What is right stands on the board in any case.
                board = tuple(sorted({*row, *shown}))
                self.assertEqual(world.book_now()[4], board)
                for word in board:
                    self.assertEqual(world.sign_for("cy", word), sum(world.signs_now()[m] for m in word) % 2)
        world = begun(*MET)
        self.assertIs(world.ask_now("bo", "al", ((0,),), (1,)), True)
        self.assertIs(world.ask_now(shown=(), answers=(1,), row=((2,),), guest="al", door="bo"), True)
        with self.assertRaises(TypeError):
            world.ask_now("bo", "al", ((0,),), (1,), ())

    def test_ask_barred(self):
        world = begun(*MET)
        for door, guest, shown, row, why in (
            ("al", "al", (), ((0,),), "hand"), ("al", "zed", (), ((0,),), "hand"), ("zed", "al", (), ((0,),), "hand"),
            ("al", "cy", (), ((1,),), "word"), ("cy", "al", ((1,),), ((0,),), "word"),
            ("al", "bo", (), ((0,), (3,)), "word"),
            ("zed", "al", (), ((9,),), "hand"), ("cy", "al", (), ((0,), (0, 1)), "word"),
        ):
            answers = tuple(0 for _ in row)
            self.refuses(world, ("ask", door, guest, shown, row, answers), ("ask", door, guest, shown, row), why)

    def test_what_was_asked_is_worth_nothing_again(self):
        world = begun(*MET, ("ask", "al", "bo", (), ((1,),), (0,)), ("ask", "al", "bo", (), ((1,),), (0,)))
        self.assertEqual(world.visits(), (("al", "bo", ((1,),), True),) * 2)
        self.assertEqual(world.visit_strengths(()), (1, 0))

    def test_greet(self):
        world = begun(*MET)
        told = world.greet_now("al", "bo", ((0,), (1,)), (1, 0), back=((0, 2),), backs=(1,))
        self.assertEqual(told, (True, False))
        self.assertEqual([type(truth) for truth in told], [bool, bool])
        self.assertEqual(world.visits(), (("al", "bo", ((0,), (1,)), True), ("bo", "al", ((0, 2),), False)))
        self.assertEqual(len(world), 4)
        asks = (("ask", "al", "bo", (), ((0,), (1,))), ("ask", "bo", "al", (), ((0, 2),)))
        self.assertEqual(world.history_now()[2][-2:], asks)
        self.assertEqual(world.log()[-1], ("greet", "al", "bo", ((0,), (1,)), (1, 0), ((0, 2),), (1,)))
        self.assertEqual(world.book_now()[4], ((0,), (0, 2), (1,)))
        named = world.greet_now(backs=(1,), back=((2,),), answers=(0,), row=((0,),), other="al", one="bo")
        self.assertEqual(named, (False, True))
        with self.assertRaises(TypeError):
            world.greet_now("al", "bo", ((0,),), (1,), ((0,),), (1,))

    def test_greet_barred(self):
        world = begun(*MET)
        for one, other, row, back, number, why in (
            ("al", "cy", ((1,),), ((0,),), 0, "word"), ("al", "cy", ((0,),), ((1,),), 1, "word"),
            ("al", "al", ((0,),), ((0,),), 0, "hand"), ("zed", "al", ((0,),), ((0,),), 0, "hand"),
            ("al", "zed", ((0,),), ((0,),), 0, "hand"), ("al", "bo", ((0,), (3,)), ((4,),), 0, "word"),
            ("al", "bo", ((0,), (2,)), ((0,), (4,)), 1, "word"),
        ):
            asks = (("ask", one, other, (), row), ("ask", other, one, (), back))
            things = ("greet", one, other, row, (0,) * len(row), back, (0,) * len(back))
            self.refuses(world, things, asks[number], why)

    def test_second_behind_the_first(self):
        # Behind the first "ask" its row is on the board, and worth nothing in the second.
        world = begun(*MET, ("greet", "al", "bo", ((1,),), (0,), ((1,), (2,)), (0, 1)))
        self.assertEqual(world.visit_strengths(()), (1, 1))

    def test_refusals_keep_what_was_handed_in(self):
        world = World(ALL)
        hands, word = ("al", "zed"), (10 ** 59,)
        with self.assertRaises(NoDeed) as caught:
            world.meet_now(hands, 0)
        self.assertIs(caught.exception.deed[1], hands)
        with self.assertRaises(NoDeed) as caught:
            world.say_now("al", word)
        self.assertIs(caught.exception.deed[2], word)
        name = "".join(("ze", "d"))
        for look in (world.seen_by, lambda hand: world.sign_for(hand, ())):
            with self.assertRaises(NoHand) as caught:
                look(name)
            self.assertIs(caught.exception.name, name)


class Looks(unittest.TestCase):
    def test_seen(self):
        world = begun(*MET, ("fold", "bo", (0,), (2,)), ("say", "al", (0, 1)))
        self.assertEqual(world.seen_by("al"), ((((0,), 1), ((1,), 0), ((2,), 1)), (((0, 1), 1),)))
        self.assertEqual(world.seen_by(hand="bo"), ((((0, 2), 0), ((1,), 0)), (((0, 1), 1),)))
        self.assertEqual(world.seen_by("cy"), ((((0,), 1),), (((0, 1), 1),)))
        self.assertEqual(World(ALL).seen_by("al"), ((), ()))
        self.assertEqual(refused(lambda: world.seen_by("zed")), ("NoHand", "zed"))

    def test_sign_for(self):
        world = begun(*MET, ("fold", "bo", (0,), (2,)), ("say", "al", (0, 1)))
        for hand, word, sign in (
            ("al", (0,), 1), ("al", (0, 1, 2), 0), ("bo", (0,), 1), ("bo", (0, 2), 0), ("bo", (2,), 1), ("cy", (1,), 0),
            ("cy", (2,), None), ("cy", (0, 1), 1), ("cy", (0, 1, 2), None), ("al", (3,), None), ("al", (0, 3), None),
            ("cy", (10 ** 59,), None), ("cy", (), 0), ("al", (), 0),
        ):
            told = world.sign_for(hand, word)
            self.assertEqual((hand, word, told), (hand, word, sign))
            self.assertIn(type(told), (int, type(None)))
        self.assertEqual(world.sign_for(word=(1,), hand="al"), 0)
        self.assertEqual(World(ALL).sign_for("al", ()), 0)
        for word in ((), (0,), (9,)):
            self.assertEqual(refused(lambda: world.sign_for("zed", word)), ("NoHand", "zed"))

    def test_strengths_of_visits(self):
        world = begun(
            *MET, ("ask", "al", "bo", (), ((0,), (1,)), (0, 0)), ("greet", "bo", "al", ((2,),), (1,), ((0, 2),), (0,)),
        )
        for lot, told in (
            ((), (2, 1, 0)), ((("cy", 0),), (1, 1, 0)), ((("cy", 3),), (1, 1, 0)), ((("cy", 6),), (2, 1, 0)),
            ((("al", 0),), (None, None, None)), ((("al", 4),), (2, None, None)), ((("bo", 5),), (2, 1, None)),
            ((("al", 6), ("cy", 4)), (2, 1, 0)), ((("al", 5), ("cy", 0)), (1, 1, None)),
        ):
            self.assertEqual((lot, world.visit_strengths(lot)), (lot, told))
        self.assertEqual(world.visit_strengths(lot=()), (2, 1, 0))
        self.assertEqual(World(ALL).visit_strengths(()), ())

    def test_told_is_the_askers_own(self):
        world = begun(*MET, ("say", "al", (0, 1)))
        before = worldhand.looks(world)
        lines = list(world.log())
        lines.clear()
        self.assertEqual(worldhand.looks(world), before)
        for told in before:
            self.assertTrue(told is None or byhand.plain(told))
        rows = list(MET)
        other = World(ALL)
        other.do_all(rows)
        rows.clear()
        self.assertEqual(other.log(), (("world", 4, ALL), *MET))

    def test_worlds_have_nothing_in_common(self):
        one, other = World(ALL), World(ALL)
        one.meet_now(ALL, 1)
        self.assertEqual(other.signs_now(), ())
        self.assertEqual(len(other), 0)


class Drawn(unittest.TestCase):
    def check(self, rng, world, hand):
        """All that the world tells, against the one by hand."""
        self.assertEqual(world.history_now(), hand.history())
        self.assertEqual(world.book_now(), hand.books[-1])
        self.assertEqual(world.signs_now(), tuple(hand.signs))
        self.assertEqual(world.visits(), tuple(hand.visits))
        self.assertEqual(world.log(), hand.log())
        self.assertEqual(len(world), len(hand.rows))
        lot = byhand.draw_lot(rng, hand.history())
        self.assertEqual(world.visit_strengths(lot), hand.strengths(lot))
        for name in hand.hands:
            self.assertEqual(world.seen_by(name), hand.seen(name))
            for bits in range(1 << min(5, len(hand.signs) + 1)):
                word = byhand.word(bits)
                self.assertEqual(world.sign_for(name, word), hand.sign_for(name, word))

    def test_against_one_by_hand(self):
        rng = random.Random(421)
        seen = collections.Counter()
        for _ in range(90):
            room = rng.choice((1, 2, 3, 4, 4))
            hands = byhand.NAMES[:rng.randint(2, 5)]
            world, hand = World(hands, room=room), worldhand.Hand(hands, room)
            for _ in range(16):
                row = worldhand.draw_row(rng, hand)
                if row is None:
                    continue
                before = worldhand.looks(world)
                told = worldhand.do(world, row)
                self.assertEqual((row, told), (row, hand.go(row)))
                if isinstance(told, tuple) and told[0] == "NoDeed":
                    self.assertEqual(worldhand.looks(world), before)
                    seen[row[0], told[2]] += 1
                else:
                    seen[row[0], "told"] += 1
                    seen[row[0], told] += 1
                self.check(rng, world, hand)
        for kind in ("meet", "fold", "drop", "say", "ask", "greet"):
            self.assertGreater(seen[kind, "told"], 15)
            self.assertGreater(seen[kind, "hand"], 0)
            self.assertGreater(seen[kind, "room" if kind == "meet" else "word"], 1)
        for told in (("ask", True), ("ask", False), ("greet", (True, True)), ("greet", (True, False)),
        ("say", "there")):
            self.assertGreater(seen[told], 0, told)

    def test_histories_and_ledgers(self):
        rng = random.Random(422)
        for _ in range(80):
            world, hand = worldhand.draw_world(rng)
            history = world.history_now()
            self.assertIs(is_history(history), True)
            self.assertEqual(last_book(history), world.book_now())
            lot = byhand.draw_lot(rng, history)
            strengths = world.visit_strengths(lot)
            self.assertEqual(len(strengths), len(world.visits()))
            asks = [k for k, deed in enumerate(history[2]) if deed[0] == "ask"]
            tries = tuple((k, strength) for k, strength in zip(asks, strengths) if strength is not None)
            self.assertEqual(ledger_of(history, lot)[0], tries)
            visited = tuple((deed[1], deed[2], deed[4]) for deed in history[2] if deed[0] == "ask")
            self.assertEqual(tuple(visit[:3] for visit in world.visits()), visited)
