import collections
import random
import unittest

from metbefore.errors import NoPaper
from metbefore.rowchecker import lets_sought
from metbefore.rowpapers import sought_paper
from metbefore.rowsought import is_enough, sought
from tests import byhand
from tests.byhand import asked, refused

FIVE = ("al", "bo", "cy", "di", "ed")
HISTORY = (4, FIVE, (
    ("meet", ("al", "bo", "cy", "ed")), ("meet", ("al", "bo", "di", "ed")), ("fold", "ed", (0,), (1,)),
))
LATE = {"since": 3}
ROW = ("row", ((0,), (1,)), (((1, (1,)),), ((0, (0,)),), ((0, (0, 1)),)))
SENT = ("sent", (("cy", 3),), ((1,),))
SIXTY = 10 ** 59


def odd(turn, word):
    return len({*turn} & {*word}) % 2 == 1


def by_hand(history, books, door, guest, thing, strength=1, count=1, since=0, shown=()):
    """What is told of a paper that has its form."""
    kind, ones, others = thing
    lots = byhand.lots_of(history, door, guest, count, since)
    both = byhand.made_by(books[-1], (door,)) & byhand.made_by(books[-1], (guest,))
    if kind == "row":
        return of_row(both, [(*byhand.went_by(books, lot), *shown) for lot in lots], ones, others, strength)
    if ones not in lots:
        return "NoPaper", "lot", -1
    if len(others) >= strength:
        return "NoPaper", "many", -1
    made = byhand.all_made((*byhand.went_by(books, ones), *shown, *others))
    return kind if both <= made else ("NoPaper", "makes", -1)


def of_row(both, knowns, row, duties, strength):
    if len(row) not in (1, 2, 3, 4):
        return "NoPaper", "many", -1
    for k, word in enumerate(row):
        if word == () or row.index(word) < k or byhand.number(word) not in both:
            return "NoPaper", "word", k
    if len(duties) != len(knowns):
        return "NoPaper", "lots", -1
    for n, duty in enumerate(duties):
        if len(duty) != strength:
            return "NoPaper", "pairs", n
        for i, (place, turn) in enumerate(duty):
            if place >= len(row) or (i and place <= duty[i - 1][0]):
                return "NoPaper", "place", (n, i)
            ahead = (*knowns[n], *[row[at] for at, _ in duty[:i]])
            if any(odd(turn, word) for word in ahead) or not odd(turn, row[place]):
                return "NoPaper", "turn", (n, i)
    return "row"


class SoughtPaper(unittest.TestCase):
    def check(self, history, books, door, guest, how):
        paper = asked(sought_paper, history, door, guest, **how)
        self.assertTrue(byhand.plain(paper))
        self.assertEqual(by_hand(history, books, door, guest, paper, **how), paper[0])
        self.assertEqual(asked(lets_sought, history, door, guest, paper, **how), paper[0])
        self.assertEqual(paper[0], sought(history, door, guest, **how)[0])
        return paper

    def books(self, history):
        books = [(history[0], history[1], (), ((),) * len(history[1]), ())]
        for deed in history[2]:
            books.append(byhand.behind(books[-1], deed))
        return books

    def test_told(self):
        books = self.books(HISTORY)
        for how, kind in (
            (LATE, "row"), ({}, "sent"), ({"since": 3, "strength": 2}, "sent"), ({"count": 0, "strength": 2}, "row"),
            ({"count": 0}, "row"), ({"count": 0, "strength": 3}, "sent"),
            ({"since": 3, "shown": ((0,), (0, 1))}, "sent"),
            ({"count": 7, "strength": 5}, "sent"), ({"count": SIXTY, "strength": SIXTY, "since": 3}, "sent"),
        ):
            self.assertEqual(self.check(HISTORY, books, "al", "bo", how)[0], kind)
        named = sought_paper(shown=(), since=3, count=1, strength=1, guest="bo", door="al", history=HISTORY)
        self.assertEqual(lets_sought(HISTORY, "al", "bo", named, since=3), "row")

    def test_by_name_alone(self):
        with self.assertRaises(TypeError):
            sought_paper(HISTORY, "al", "bo", 1)
        with self.assertRaises(TypeError):
            lets_sought(HISTORY, "al", "bo", ROW, 1)

    def test_no_more_pairs_than_strength(self):
        history = (4, (*FIVE, "fay"), HISTORY[2])
        paper = self.check(history, self.books(history), "al", "bo", LATE)
        self.assertEqual([len(duty) for duty in paper[2]], [1, 1, 1, 1])
        self.assertEqual(paper[1], ((0,), (0, 1)))

    def test_nothing_in_common(self):
        void = (1, ("al", "bo"), ())
        self.assertEqual(self.check(void, self.books(void), "bo", "al", {}), ("sent", (), ()))
        self.assertEqual(self.check(void, self.books(void), "bo", "al", {"strength": 5, "count": 0}), ("sent", (), ()))

    def test_drawn(self):
        rng = random.Random(361)
        seen = collections.Counter()
        for _ in range(700):
            history, books, pair = byhand.draw_shared(rng)
            door, guest, how = byhand.draw_look(rng, history, books, pair)
            paper = self.check(history, books, door, guest, how)
            seen[paper[0], len(paper[1])] += 1
        self.assertGreater(min(seen["row", 1], seen["row", 2], seen["sent", 0], seen["sent", 1]), 10)


class LetsSought(unittest.TestCase):
    def told(self, thing, **how):
        return refused(lets_sought, HISTORY, "al", "bo", thing, **(how or LATE))

    def test_let_by(self):
        self.assertEqual(self.told(ROW), "row")
        self.assertEqual(self.told(("row", ((1,), (0,)), (((0, (1, 7)),), ((1, (0,)),), ((0, (0, 1)),)))), "row")
        duties = (((0, (1,)),), ((2, (0, SIXTY)),), ((1, (0, 1)),))
        self.assertEqual(self.told(("row", ((0, 1), (1,), (0,)), duties)), "row")
        self.assertEqual(self.told(("row", ((0,),), ((),)), count=0, strength=0), "row")
        two = ("row", ((0,), (0, 1)), (((0, (0, 1)), (1, (1,))),))
        self.assertEqual(self.told(two, count=0, strength=2), "row")
        self.assertEqual(self.told(SENT, since=3, strength=2), "sent")
        self.assertEqual(self.told(("sent", (("ed", 0),), ()), since=0), "sent")
        self.assertEqual(self.told(("sent", (("cy", 3),), ((), (0, 1), (0, 1))), since=3, strength=4), "sent")
        self.assertEqual(self.told(("sent", (("cy", 3),), ((1, 9), (9,))), since=3, strength=3), "sent")
        self.assertEqual(self.told(("sent", (("cy", 3),), ()), since=3, shown=((0, 1),)), "sent")
        named = lets_sought(shown=(), since=3, count=1, strength=1, thing=ROW, guest="bo", door="al", history=HISTORY)
        self.assertEqual(named, "row")

    def test_left_out(self):
        self.assertEqual(refused(lets_sought, HISTORY, "al", "bo", ("sent", (("ed", 0),), ())), "sent")
        self.assertEqual(refused(lets_sought, HISTORY, "al", "bo", ROW), ("NoPaper", "turn", (2, 0)))

    def test_shape(self):
        for thing in (
            None, 0, True, "row", "sent", (), [], ("row",), ("row", ()), ("sent", ()), ("row", (), (), ()), list(ROW),
            list(SENT), ("Row", *ROW[1:]), ("sent", *ROW[1:]), ("row", *SENT[1:]), ("row", [(0,)], ((), (), ())),
            ("row", ((0,),), []), ("row", ((0,),), ([], (), ())), ("row", ((0,),), (([0, (0,)],),)),
            ("row", ([0],), ()),
            ("row", ((0,),), (((0, [0]),),)), ("row", ((0,),), (((True, (0,)),),)), ("row", ((0,),), (((0, (1, 0)),),)),
            ("row", ((0,),), (((-1, (0,)),),)), ("row", ((0,),), (((0,),),)), ("row", ((0,),), (((0, (0,), 0),),)),
            ("row", ((1, 0),), ()), ("row", ((True,),), ()), ("row", ((-1,),), ()), ("row", (0,), ()),
            ("row", None, ()),
            ("row", ((0,),), None), ("row", ((0,),), (None,)), ("row", ((0,),), ((0, (0,)),)),
            ("sent", [("cy", 3)], ()), ("sent", (["cy", 3],), ()), ("sent", (("cy", True),), ()),
            ("sent", (("cy", -1),), ()),
            ("sent", (("Cy", 3),), ()), ("sent", (("cy",),), ()), ("sent", ("cy",), ()), ("sent", (("cy", 3),), []),
            ("sent", (("cy", 3),), ([1],)), ("sent", (("cy", 3),), ((1, 1),)), ("sent", (("cy", 3),), (1,)),
            ("sent", None, ()), ("sent", (), None), (("row",), (), ()), (None, (), ()), (0, (), ()),
            ("row\n", *ROW[1:]),
        ):
            self.assertEqual(self.told(thing), ("NoPaper", "shape", -1), thing)

    def test_many_of_row(self):
        five = ((0,), (1,), (0, 1), (0,), (1,))
        for row in ((), five, ((), (), (), (), (9,))):
            self.assertEqual(self.told(("row", row, ())), ("NoPaper", "many", -1))

    def test_word(self):
        for row, k in (
            (((),), 0), (((0,), ()), 1), (((0,), (0,)), 1), (((0,), (1,), (0,)), 2), (((2,),), 0), (((0,), (0, 2)), 1),
            (((SIXTY,),), 0), (((1,), (0,), (1,), ()), 2), (((), ()), 0),
        ):
            self.assertEqual(self.told(("row", row, ())), ("NoPaper", "word", k))
        for door, guest in (("al", "cy"), ("cy", "al")):
            paper = ("row", ((0,), (1,)), ())
            self.assertEqual(refused(lets_sought, HISTORY, door, guest, paper), ("NoPaper", "word", 1))
        # What is shown brings nobody a word more.
        paper = ("row", ((0,), (1,)), ())
        self.assertEqual(refused(lets_sought, HISTORY, "al", "cy", paper, shown=((0,),)), ("NoPaper", "word", 1))

    def test_lots(self):
        for duties in ((), ROW[2][:2], (*ROW[2], ()), ((),), ((((9, ()),)),)):
            self.assertEqual(self.told(("row", ROW[1], duties)), ("NoPaper", "lots", -1))
        self.assertEqual(self.told(("row", ROW[1], ()), count=0), ("NoPaper", "lots", -1))

    def test_pairs(self):
        one, two, three = ROW[2]
        for duties, n in (
            (((), two, three), 0), ((one, (), three), 1), ((one, two, ()), 2), ((one, two, three * 2), 2),
            (((one + one), (), ()), 0), ((one, ((0, (0,)), (9, ())), three), 1),
        ):
            self.assertEqual(self.told(("row", ROW[1], duties)), ("NoPaper", "pairs", n))
        self.assertEqual(self.told(ROW, since=3, strength=SIXTY), ("NoPaper", "pairs", 0))

    def test_place(self):
        one, two, three = ROW[2]
        for duties, at in (
            ((((2, (1,)),), two, three), (0, 0)), ((one, ((SIXTY, (0,)),), three), (1, 0)),
            ((one, two, ((2, ()),)), (2, 0)), ((one, ((2, (0,)),), ()), (1, 0)),
        ):
            self.assertEqual(self.told(("row", ROW[1], duties)), ("NoPaper", "place", at))
        for pairs, i in ((((0, (0,)), (0, (1,))), 1), (((1, (1,)), (0, (0,))), 1), (((0, (0,)), (2, (1,))), 1)):
            self.assertEqual(self.told(("row", ROW[1], (pairs,)), count=0, strength=2), ("NoPaper", "place", (0, i)))

    def test_turn(self):
        one, two, three = ROW[2]
        for duties, at in (
            ((((1, (0, 1)),), two, three), (0, 0)), ((((1, (0,)),), two, three), (0, 0)),
            ((((0, (1,)),), two, three), (0, 0)),
            ((one, ((0, ()),), three), (1, 0)), ((one, ((0, (5,)),), ()), (1, 0)), ((one, two, ((0, (0,)),)), (2, 0)),
            ((one, two, ((1, (1,)),)), (2, 0)),
        ):
            self.assertEqual(self.told(("row", ROW[1], duties)), ("NoPaper", "turn", at))
        for pairs, i in ((((0, (0,)), (1, (0, 1))), 1), (((0, (1,)), (1, (1,))), 0), (((0, (0, 1)), (1, (0,))), 1)):
            self.assertEqual(self.told(("row", ROW[1], (pairs,)), count=0, strength=2), ("NoPaper", "turn", (0, i)))
        # What the lot knows counts for each pair, and so do all words ahead.
        history = (4, FIVE[:3], (("meet", FIVE[:3]), *[("meet", FIVE[:2]) for _ in range(3)]))
        row = ((1,), (2,), (3,))
        for turns, i in (
            (((1,), (2,), (3,)), None), (((1,), (0, 2), (3,)), 1), (((1,), (2,), (1, 3)), 2), (((1,), (2,), (2, 3)), 2),
            (((1,), (2,), (0, 3)), 2), (((0, 1), (2,), (3,)), 0), (((1, 2), (2,), (3,)), None),
            (((1,), (1, 2), (3,)), 1),
        ):
            paper = ("row", row, (tuple(enumerate(turns)),))
            told = refused(lets_sought, history, "al", "bo", paper, strength=3)
            self.assertEqual(told, "row" if i is None else ("NoPaper", "turn", (0, i)))
        # What is shown is known, too.
        paper = ("row", ((0,),), (((0, (0,)),),))
        self.assertEqual(self.told(paper, count=0, shown=((0,),)), ("NoPaper", "turn", (0, 0)))
        self.assertEqual(self.told(paper, count=0, shown=((1,),)), "row")

    def test_lot(self):
        for lot in (
            (), (("al", 3),), (("bo", 3),), (("cy", 2),), (("cy", 3), ("di", 3)), (("zed", 3),), (("cy", 3), ("cy", 3)),
            (("cy", SIXTY),), (("cy", 4),),
        ):
            self.assertEqual(self.told(("sent", lot, ((1,), (0,)))), ("NoPaper", "lot", -1))
        self.assertEqual(self.told(("sent", (("cy", 0),), ()), count=0), ("NoPaper", "lot", -1))
        turned = (("di", 3), ("cy", 3))
        self.assertEqual(self.told(("sent", turned, ()), count=2, since=3), ("NoPaper", "lot", -1))

    def test_many_of_sent(self):
        for words, strength in ((((1,),), 1), (((1,), (0,)), 2), (((), ()), 1), (((0,),), 1)):
            told = self.told(("sent", (("cy", 3),), words), since=3, strength=strength)
            self.assertEqual(told, ("NoPaper", "many", -1))

    def test_makes(self):
        for words, strength in (((), 1), ((), 9), (((),), 2), (((0,),), 2), (((2,), (0,)), 3), (((1, 9),), 2)):
            told = self.told(("sent", (("cy", 3),), words), since=3, strength=strength)
            self.assertEqual(told, ("NoPaper", "makes", -1))

    def test_drawn_just_one_word(self):
        rng = random.Random(362)
        seen = collections.Counter()
        for _ in range(1200):
            history, books, pair = byhand.draw_shared(rng, most_meetings=4)
            door, guest, how = byhand.draw_look(rng, history, books, pair)
            paper = self.bent(rng, history, books, door, guest, how)
            told = refused(lets_sought, history, door, guest, paper, **how)
            self.assertEqual(told, by_hand(history, books, door, guest, paper, **how))
            if isinstance(told, str):
                self.assertEqual(told, sought(history, door, guest, **how)[0])
                self.assertTrue(told == "sent" or is_enough(history, door, guest, paper[1], **how))
            seen[told if isinstance(told, str) else (paper[0], told[1])] += 1
        for what in (
            "row", "sent", ("row", "many"), ("row", "word"), ("row", "lots"), ("row", "pairs"), ("row", "place"),
            ("row", "turn"), ("sent", "lot"), ("sent", "many"), ("sent", "makes"),
        ):
            self.assertGreater(seen[what], 4, what)

    def bent(self, rng, history, books, door, guest, how):
        """A paper that was told, or one made up, now and then with a thing of it otherwise."""
        many = len(books[-1][2])
        both = byhand.made_by(books[-1], (door,)) & byhand.made_by(books[-1], (guest,))
        paper = sought_paper(history, door, guest, **{**how, "strength": rng.choice((1, 1, 2, how.get("strength", 1)))})
        if paper[0] == "row":
            row, duties = paper[1:]
            way = rng.randrange(6)
            if way == 0:
                row = row + (byhand.draw_some(rng, both, 0, 3) or ())
            elif way == 1:
                duties = duties + duties[:1]
            elif way == 2 and duties[0]:
                place, turn = duties[-1][-1]
                pair = (place + rng.randint(0, 1), byhand.word(byhand.number(turn) ^ rng.randrange(1 << many)))
                duties = (*duties[:-1], (*duties[-1][:-1], pair))
            elif way == 3:
                duties = (*duties[:-1], duties[-1] + duties[-1][:1])
            elif way == 4:
                row = row[:-1]
            return "row", row, duties
        lot, words = paper[1:]
        way = rng.randrange(5)
        if way == 0:
            lot = byhand.draw_lot(rng, history)
        elif way == 1:
            words = words[:-1] + (byhand.word(rng.randrange(1 << many)),)
        elif way == 2:
            lots = byhand.lots_of(history, door, guest, how.get("count", 1), how.get("since", 0))
            lot = rng.choice(lots)
        return "sent", lot, words

    def test_drawn_spoilt(self):
        rng = random.Random(363)
        books = SoughtPaper.books(self, HISTORY)
        shapes = 0
        for _ in range(2500):
            good, how = rng.choice(((ROW, {}), (SENT, {"strength": 2})))
            thing = byhand.spoilt(rng, good)
            told = self.told(thing, since=3, **how)
            if told == ("NoPaper", "shape", -1):
                shapes += 1
            else:
                self.assertTrue(byhand.plain(thing))
                self.assertEqual(told, by_hand(HISTORY, books, "al", "bo", byhand.small(thing), since=3, **how))
        self.assertIn(shapes, range(500, 2400))
        for _ in range(400):
            thing = byhand.draw_thing(rng)
            for one in (
                thing, ("row", thing, ()), ("row", ((0,),), thing), ("row", ((0,),), (thing,)), ("sent", thing, ()),
                ("sent", (("cy", 3),), thing), ("row", ((0,),), (((0, thing),), (), ())), ("sent", (thing,), ()),
            ):
                self.assertIn(type(self.told(one)), (str, tuple))

    def test_refused_by_the_class(self):
        with self.assertRaises(NoPaper) as caught:
            lets_sought(HISTORY, "al", "bo", ROW)
        self.assertEqual((caught.exception.word, caught.exception.at), ("turn", (2, 0)))
