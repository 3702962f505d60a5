import random
import unittest

from metbefore.errors import NoPaper
from metbefore.morechecker import lets_more
from metbefore.morepapers import more_paper
from tests import byhand
from tests.byhand import asked, refused, rows

ALL = ("al", "bo", "cy")
BOOK = rows(ALL, (((0,),), ((0,), (1,)), ((1,),)))
PLAN = ("plan", (("bo", (0, 1)),))


def by_hand(book, door, guest, than, thing):
    """What is told of a paper that has its form, by doing the plan, by counting what is held by the side."""
    kind, told = thing
    if kind == "plan":
        now = book
        for k, (hand, said) in enumerate(told):
            why = "hand" if hand in (door, guest) else byhand.barred(now, ("say", hand, said))
            if why:
                return "NoPaper", why, k
            now = byhand.behind_say(now, said)
        return kind if byhand.free(now, door, guest) > than else ("NoPaper", "few", -1)
    for k, hand in enumerate(told):
        if hand not in book[1]:
            return "NoPaper", "hand", k
    if door not in told:
        return "NoPaper", "door", -1
    if guest in told:
        return "NoPaper", "guest", -1
    return kind if byhand.held(book, told) <= than else ("NoPaper", "many", -1)


class LetsMore(unittest.TestCase):
    def told(self, thing, than=0, book=BOOK):
        return refused(lets_more, book, "al", "cy", thing, than=than)

    def test_let_by(self):
        self.assertEqual(refused(lets_more, BOOK, "al", "cy", PLAN), "plan")
        self.assertEqual(self.told(("side", ("al",)), than=1), "side")
        self.assertEqual(self.told(("side", ("al", "bo")), than=10 ** 59), "side")
        self.assertEqual(refused(lets_more, BOOK, "cy", "bo", ("side", ("cy",)), than=1), "side")
        self.assertEqual(self.told(("plan", ()), book=rows(ALL, (((0,),), (), ((0,),)))), "plan")
        self.assertEqual(lets_more(than=0, thing=PLAN, guest="cy", door="al", book=BOOK), "plan")

    def test_than_left_out_is_nought(self):
        self.assertEqual(refused(lets_more, BOOK, "al", "cy", ("side", ("al",))), ("NoPaper", "many", -1))
        self.assertEqual(refused(lets_more, BOOK, "al", "cy", ("plan", ())), ("NoPaper", "few", -1))
        void = rows(ALL, ((), ((0,),), ()))
        self.assertEqual(refused(lets_more, void, "al", "cy", ("side", ("al",))), "side")

    def test_than_by_name_alone(self):
        with self.assertRaises(TypeError):
            lets_more(BOOK, "al", "cy", PLAN, 0)

    def test_shape(self):
        for thing in (
            None, 0, True, "plan", "side", (), [], ("plan",), ("side",), ("plan", (), ()), ["plan", ()],
            ["side", ("al",)],
            ("plan", []), ("side", ["al"]), ("plan", None), ("side", "al"), ("plan", 0), ("Plan", ()), ("row", ()),
            (("plan",), ()), (None, ()), (0, ("al",)), ((), "plan"), ("plan\n", ()), ("plan", ("bo", (0, 1))),
            ("plan", (("bo", ()),)), ("plan", (["bo", (0, 1)],)), ("plan", (("bo", [0, 1]),)),
            ("plan", (("bo", (1, 0)),)),
            ("plan", (("bo", (False, 1)),)), ("plan", (("Bo", (0,)),)), ("plan", (("bo",),)), ("side", ("cy", "al")),
            ("side", ("al", "al")), ("side", (0,)), ("side", ("AL",)), ("side", (("al",),)), ("side", (True,)),
        ):
            self.assertEqual(self.told(thing), ("NoPaper", "shape", -1), thing)

    def test_shape_goes_ahead(self):
        self.assertEqual(self.told(("plan", (("zed", (0,)), ("bo", ())))), ("NoPaper", "shape", -1))
        self.assertEqual(self.told(("side", ("al", "zed", "bo"))), ("NoPaper", "shape", -1))

    def test_of_plans(self):
        for plan, why, k in (
            ((("zed", (0,)),), "hand", 0), ((("al", (0,)),), "hand", 0), ((("cy", (9,)),), "hand", 0),
            ((("bo", (2,)),), "word", 0), ((("bo", (0, 1)), ("bo", (0, 1))), "there", 1),
            ((("bo", (0,)), ("bo", (0, 5)), ("zed", (0,))), "word", 1), ((("bo", (0, 1)), ("cy", (1,))), "hand", 1),
        ):
            for than in (0, 5):
                self.assertEqual(self.told(("plan", plan), than), ("NoPaper", why, k))

    def test_few(self):
        for plan in ((), (("bo", (0,)),), (("bo", (1,)),), (("bo", (0,)), ("bo", (1,)))):
            self.assertEqual(self.told(("plan", plan)), ("NoPaper", "few", -1))
        for than in (1, 2, 10 ** 59):
            self.assertEqual(self.told(PLAN, than), ("NoPaper", "few", -1))

    def test_of_sides(self):
        for side, word, at in (
            (("al", "bob"), "hand", 1), (("a", "al"), "hand", 0), ((), "door", -1), (("bo",), "door", -1),
            (("bo", "cy"), "door", -1), (("al", "cy"), "guest", -1), (("cy",), "door", -1), (("cy", "zed"), "hand", 1),
        ):
            for than in (0, 5):
                self.assertEqual(self.told(("side", side), than), ("NoPaper", word, at))

    def test_many(self):
        for side in (("al",), ("al", "bo")):
            self.assertEqual(self.told(("side", side)), ("NoPaper", "many", -1))

    def test_told_are_let_by(self):
        for book, door, guest in byhand.drawn(301, 60, most_hands=5, most_meetings=8):
            for than in range(3):
                paper = more_paper(book, door, guest, than=than)
                self.assertEqual(asked(lets_more, book, door, guest, paper, than=than), paper[0])

    def test_drawn_just_one_word(self):
        rng = random.Random(302)
        seen = {}
        for book, door, guest in byhand.drawn(303, 250, most_hands=4, most_meetings=5):
            than = rng.randint(0, 2)
            more = byhand.least(book, door, guest)[0] > than
            for _ in range(8):
                thing = self.draw_paper(rng, book, door, guest)
                told = refused(lets_more, book, door, guest, thing, than=than)
                self.assertEqual(told, by_hand(book, door, guest, than, thing))
                seen[told if isinstance(told, str) else told[1]] = True
                if isinstance(told, str):
                    self.assertEqual(told, "plan" if more else "side")
        told = ["door", "few", "guest", "hand", "many", "plan", "side", "there", "word"]
        self.assertEqual(sorted(seen), told)

    def draw_paper(self, rng, book, door, guest):
        names = (*book[1], *book[1], "zed")
        if rng.random() < 0.5:
            return "side", tuple(sorted({rng.choice(names) for _ in range(rng.randint(0, 2))} | {door}))
        if rng.random() < 0.1:
            return "side", tuple(sorted({rng.choice(names) for _ in range(rng.randint(0, 2))}))
        plan = []
        for _ in range(rng.randint(0, 3)):
            hand = rng.choice([one for one in names if one not in (door, guest)] * 5 + [*names])
            made = sorted(byhand.made_by(book, (hand,)) - {0}) if hand in book[1] else []
            plan.append((hand, byhand.word(rng.choice([*made, *made, rng.randrange(1, 32)]))))
        return "plan", tuple(plan)

    def test_drawn_spoilt(self):
        rng = random.Random(304)
        for _ in range(800):
            two = ("plan", (("bo", (0,)), ("bo", (1,))))
            thing = byhand.spoilt(rng, rng.choice((PLAN, two, ("side", ("al", "bo")))))
            than = rng.randint(0, 2)
            told = self.told(thing, than)
            if told != ("NoPaper", "shape", -1):
                self.assertTrue(byhand.plain(thing))
                self.assertEqual(told, by_hand(BOOK, "al", "cy", than, thing))
        for _ in range(500):
            thing = byhand.draw_thing(rng)
            for one in (thing, ("plan", thing), ("side", thing), ("plan", (("bo", thing),)), ("side", (thing,))):
                self.assertIn(type(self.told(one)), (str, tuple))

    def test_refused_by_the_class(self):
        with self.assertRaises(NoPaper) as caught:
            lets_more(BOOK, "al", "cy", None)
        self.assertEqual((caught.exception.word, caught.exception.at), ("shape", -1))
