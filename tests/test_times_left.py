import collections
import itertools
import random
import unittest

from metbefore.errors import NoPaper
from metbefore.rowsought import is_enough, sought
from metbefore.strengths import full_strength
from metbefore.timesleft import lets_schedule, schedule_of, times_left
from tests import byhand
from tests.byhand import asked, refused

FIVE = ("al", "bo", "cy", "di", "ed")
THREE = (4, FIVE, (
    ("meet", ("al", "bo", "cy", "ed")), ("meet", ("al", "bo", "di", "ed")), ("fold", "ed", (0,), (1,)),
))
FOUR = (4, ("al", "bo", "cy"), tuple(("meet", ("al", "bo")) for _ in range(4)))
SIXTY = 10 ** 59


def by_hand(history, books, door, guest, strength=1, count=1, since=0):
    """How many rows can stand one behind another, by going through all rows of all that both make."""
    both = sorted(byhand.made_by(books[-1], (door,)) & byhand.made_by(books[-1], (guest,)) - {0})
    lots = byhand.lots_of(history, door, guest, count, since)
    knowns = [frozenset(byhand.all_made(byhand.went_by(books, lot))) for lot in lots]
    board = byhand.all_made(books[-1][4])
    told = {}

    def longest(made):
        """The same behind what makes all these, by what is made."""
        if made not in told:
            told[made] = 0
            for many in range(1, 5):
                for row in itertools.combinations(both, many):
                    now = spread(made, row)
                    if now != made and all(strong(spread(known, made), row) for known in knowns):
                        told[made] = max(told[made], 1 + longest(now))
        return told[made]

    def strong(known, row):
        return len(spread(known, row)) >= len(known) << strength

    return longest(frozenset(board))


def spread(made, more):
    """All that is made with these words more."""
    for bits in more:
        if bits not in made:
            made = made | {one ^ bits for one in made}
    return frozenset(made)


def look(history, thing, **how):
    return refused(lets_schedule, history, "al", "bo", thing, **how)


class Schedules(unittest.TestCase):
    def check(self, history, door, guest, **how):
        told = asked(schedule_of, history, door, guest, **how)
        self.assertTrue(byhand.plain(told))
        self.assertEqual(asked(lets_schedule, history, door, guest, told, **how), len(told))
        self.assertEqual(asked(times_left, history, door, guest, **how), len(told))
        shown = []
        for row in told:
            self.assertEqual(len({*row}), len(row))
            words = tuple(dict.fromkeys(shown))
            self.assertIs(is_enough(history, door, guest, row, shown=words, **how), True)
            shown += row
        return len(told)

    def test_told(self):
        for history, how, many in (
            (FOUR, {}, 4), (FOUR, {"strength": 2}, 2), (FOUR, {"strength": 3}, 1), (FOUR, {"strength": 4}, 1),
            (FOUR, {"strength": 5}, 0), (FOUR, {"strength": SIXTY}, 0), (FOUR, {"count": 0}, 4),
            (FOUR, {"count": 9}, 4),
            (THREE, {}, 0), (THREE, {"since": 3}, 1), (THREE, {"since": 3, "strength": 2}, 0), (THREE, {"count": 0}, 2),
            (THREE, {"count": 0, "strength": 2}, 1), (THREE, {"count": 2, "since": 3}, 0), (THREE, {"count": SIXTY}, 0),
        ):
            self.assertEqual((how, self.check(history, "al", "bo", **how)), (how, many))
            self.assertEqual(self.check(history, "bo", "al", **how), many)
        self.assertEqual(len(schedule_of(since=3, count=1, strength=1, guest="bo", door="al", history=THREE)), 1)
        self.assertEqual(times_left(since=3, count=1, strength=1, guest="bo", door="al", history=THREE), 1)
        self.assertIs(type(times_left(FOUR, "al", "bo")), int)

    def test_by_name_alone(self):
        for function, things in ((schedule_of, ()), (times_left, ()), (lets_schedule, ((),))):
            with self.assertRaises(TypeError):
                function(THREE, "al", "bo", *things, 1)

    def test_nothing_beyond_the_board(self):
        self.assertEqual(self.check((1, ("al", "bo"), ()), "al", "bo"), 0)
        self.assertEqual(self.check(THREE, "cy", "di", count=0), 0)
        said = (*FOUR[:2], FOUR[2] + tuple(("say", "bo", (k,)) for k in range(4)))
        self.assertEqual(self.check(said, "al", "bo"), 0)
        self.assertEqual(asked(schedule_of, said, "al", "bo"), ())

    def test_drawn_against_all_rows_one_behind_another(self):
        rng = random.Random(371)
        seen = collections.Counter()
        for _ in range(350):
            history, books, pair = byhand.draw_shared(rng, most_meetings=4)
            door, guest, how = byhand.draw_look(rng, history, books, pair)
            how.pop("shown", 0)
            if len(byhand.made_by(books[-1], (door,)) & byhand.made_by(books[-1], (guest,))) > 16:
                continue
            told = self.check(history, door, guest, **how)
            self.assertEqual(told, by_hand(history, books, door, guest, **how))
            seen[told] += 1
        self.assertGreater(min(seen[k] for k in range(4)), 5)

    def test_drawn_bounds(self):
        rng = random.Random(372)
        seen = collections.Counter()
        for _ in range(300):
            history, books, pair = byhand.draw_shared(rng, most_meetings=7)
            door, guest, how = byhand.draw_look(rng, history, books, pair)
            how = {"strength": 1, "count": 1, "since": 0, **how}
            how.pop("shown", 0)
            told = self.check(history, door, guest, **how)
            for lot in byhand.lots_of(history, door, guest, how["count"], how["since"]):
                self.assertLessEqual(told * how["strength"], full_strength(history, door, guest, lot))
            self.assertEqual(told > 0, sought(history, door, guest, **how)[0] == "row")
            for more in ({"strength": how["strength"] + 1}, {"count": how["count"] + 1}, {"since": how["since"] // 2}):
                self.assertLessEqual(times_left(history, door, guest, **{**how, **more}), told)
            seen[told] += 1
        self.assertGreater(min(seen[k] for k in range(4)), 5)


class LetsSchedule(unittest.TestCase):
    def test_let_by(self):
        for thing, how, many in (
            ((), {}, 0), ((((0,),),), {}, 1), ((((0,), (1,)), ((2,),)), {}, 2),
            ((((0,),), ((1,),), ((2,),), ((3,),)), {}, 4),
            ((((0, 1, 2, 3),),), {}, 1), ((((0,), (1,)), ((2, 3), (0, 2))), {"strength": 2}, 2),
            # Words that those ahead make, and one that stands in several rows.
            ((((0,),), ((0,), (1,)), ((0,), (1,), (0, 1), (2,))), {}, 3), ((((0,), (1,)), ((0, 1), (2,))), {}, 2),
            ((((1,), (0,)),), {}, 1), ((((0,), (1,), (0, 1)),), {"strength": 2}, 1),
            ((((0,), (1,), (2,), (3,)),), {"strength": 4}, 1),
        ):
            self.assertEqual((thing, look(FOUR, thing, **how)), (thing, many))
        self.assertEqual(look(THREE, (((0,), (0, 1)),), since=3), 1)
        self.assertIs(type(look(FOUR, ())), int)
        named = lets_schedule(since=3, count=1, strength=1, thing=(), guest="bo", door="al", history=THREE)
        self.assertEqual(named, 0)

    def test_shape(self):
        for thing in (
            None, 0, True, "", "row", [], [((0,),)], ([(0,)],), (([0],),), (((0,), 1),), ((0,),), (0,), (None,), ("",),
            (((1, 0),),), (((0, 0),),), (((True,),),), (((-1,),),), (((0,),), None), ((("0",),),),
            (((0,),), ((1,), [2])),
            ((), [0]), ((((0,),),),),
        ):
            self.assertEqual(look(FOUR, thing), ("NoPaper", "shape", -1), thing)

    def test_row(self):
        for thing, how, k in (
            (((),), {}, 0), ((((),),), {}, 0), ((((0,), (0,)),), {}, 0), ((((0,), ()),), {}, 0), ((((4,),),), {}, 0),
            ((((SIXTY,),),), {}, 0), ((((0,), (4,)),), {}, 0), ((((0,),), ((0,),)), {}, 1), ((((0,),), ()), {}, 1),
            ((((0,), (1,)), ((0, 1),)), {}, 1), ((((0,),), ((1,),), ((1,), (1,))), {}, 2),
            ((((0,),), ((1,), ()), ((4,),)), {}, 1), ((((0,),), ((1,), (2,))), {"strength": 2}, 0),
            ((((0,), (1,)), ((2,), (1,))), {"strength": 2}, 1), ((((0,), (1,), (2,), (3,), (0, 1)),), {}, 0),
            ((((0,), (1,), (0, 1)),), {"strength": 3}, 0), ((((0,), (1,), (2,), (3,)),), {"strength": 5}, 0),
        ):
            self.assertEqual((thing, look(FOUR, thing, **how)), (thing, ("NoPaper", "row", k)))
        for row in (((0,),), ((1,),), ((0, 1),)):
            self.assertEqual(look(THREE, (row,), since=3), ("NoPaper", "row", 0))
            self.assertEqual(look(THREE, (((0,), (0, 1)), row), since=3), ("NoPaper", "row", 1))
        self.assertEqual(look(THREE, (((0,), (0, 1)),)), ("NoPaper", "row", 0))
        told = refused(lets_schedule, THREE, "al", "cy", (((1,),),), count=0)
        self.assertEqual(told, ("NoPaper", "row", 0))

    def test_shape_goes_ahead(self):
        self.assertEqual(look(FOUR, ((), ((9,),), ((True,),))), ("NoPaper", "shape", -1))

    def test_drawn(self):
        rng = random.Random(373)
        seen = collections.Counter()
        for _ in range(600):
            history, books, pair = byhand.draw_shared(rng)
            door, guest, how = byhand.draw_look(rng, history, books, pair)
            how.pop("shown", 0)
            how["strength"] = rng.choice((1, 1, 2))
            both = byhand.made_by(books[-1], (door,)) & byhand.made_by(books[-1], (guest,))
            thing = tuple(byhand.draw_some(rng, both, 0, 4) or () for _ in range(rng.randint(0, 3)))
            if rng.random() < 0.5:
                thing = schedule_of(history, door, guest, **how) + thing
            wrong = None
            for k, row in enumerate(thing):
                shown = tuple({word for other in thing[:k] for word in other})
                if wrong is None and not is_enough(history, door, guest, row, shown=shown, **how):
                    wrong = "NoPaper", "row", k
            told = refused(lets_schedule, history, door, guest, thing, **how)
            self.assertEqual(told, len(thing) if wrong is None else wrong)
            if wrong is None:
                self.assertLessEqual(told, times_left(history, door, guest, **how))
            seen[type(told), told if wrong is None else told[2]] += 1
        self.assertGreater(min(seen[int, 1], seen[int, 2], seen[tuple, 0], seen[tuple, 1], seen[tuple, 2]), 5)

    def test_drawn_spoilt(self):
        rng = random.Random(374)
        good = (((0,), (1,)), ((2,), (0, 3)))
        shapes = 0
        for _ in range(900):
            thing = byhand.spoilt(rng, good)
            told = look(FOUR, thing)
            if told == ("NoPaper", "shape", -1):
                shapes += 1
            else:
                self.assertTrue(byhand.plain(thing))
                self.assertEqual(told, self.by_rows(byhand.small(thing)))
        self.assertIn(shapes, range(200, 850))
        for _ in range(500):
            thing = byhand.draw_thing(rng)
            for one in (thing, (thing,), ((thing,),), (((0,),), thing), (((0,), thing),)):
                self.assertIn(type(look(FOUR, one)), (int, tuple))

    def by_rows(self, thing):
        """What is told of rows of words of four meetings that both were at, and nobody else."""
        made = {0}
        for k, row in enumerate(thing):
            bits = [byhand.number(word) for word in row]
            if 0 in bits or len({*bits}) != len(bits) or not 1 <= len(bits) <= 4 or max(bits) > 15 or {*bits} <= made:
                return "NoPaper", "row", k
            made = spread(made, bits)
        return len(thing)

    def test_refused_by_the_class(self):
        with self.assertRaises(NoPaper) as caught:
            lets_schedule(FOUR, "al", "bo", ((),))
        self.assertEqual((caught.exception.word, caught.exception.at), ("row", 0))
