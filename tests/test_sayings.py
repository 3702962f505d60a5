import random
import unittest

from metbefore.errors import NoPaper
from metbefore.leastsides import least_sides
from metbefore.planchecker import lets_plan
from metbefore.planning import plan_of
from metbefore.sayings import behind_plan, both_can_make, free_to
from metbefore.sides import held_by, sides_of
from tests import byhand
from tests.byhand import asked, refused, rows

ALL = ("al", "bo", "cy")
BOOK = rows(ALL, (((0,),), ((0,), (1,)), ((1,),)))


class FreeTo(unittest.TestCase):
    def test_told(self):
        self.assertEqual(asked(free_to, BOOK, "al", "cy"), 0)
        self.assertEqual(asked(free_to, BOOK, "al", "bo"), 1)
        self.assertEqual(asked(both_can_make, BOOK, "al", "cy"), ())
        self.assertEqual(asked(both_can_make, BOOK, "bo", "cy"), ((1,),))
        self.assertEqual(free_to(guest="cy", door="bo", book=BOOK), 1)
        self.assertEqual(both_can_make(guest="cy", door="bo", book=BOOK), ((1,),))

    def test_what_the_board_makes(self):
        book = rows(ALL, (((0,),), (), ((1,),)), ((0, 1), (2,)))
        self.assertEqual(asked(free_to, book, "al", "cy"), 1)
        self.assertEqual(asked(both_can_make, book, "al", "cy"), ((0,), (1,), (2,)))
        self.assertEqual(asked(free_to, book, "al", "bo"), 0)
        self.assertEqual(asked(both_can_make, book, "al", "bo"), ((0, 1), (2,)))

    def test_sums_in_common(self):
        book = rows(ALL, (((0,), (1,), (2,)), (), ((0, 1), (2, 3), (3,))))
        self.assertEqual(asked(both_can_make, book, "al", "cy"), ((0, 1), (2,)))
        self.assertEqual(asked(free_to, book, "al", "cy"), 2)

    def test_void(self):
        book = rows(ALL, ((), (), ()))
        self.assertEqual((asked(free_to, book, "al", "bo"), asked(both_can_make, book, "al", "bo")), (0, ()))

    def test_drawn_against_all_sums(self):
        for book, door, guest in byhand.drawn(361, 200):
            both = byhand.made_by(book, (door,)) & byhand.made_by(book, (guest,))
            self.assertTrue(byhand.is_base(asked(both_can_make, book, door, guest), both))
            told = asked(free_to, book, door, guest)
            self.assertIs(type(told), int)
            self.assertEqual(told, byhand.free(book, door, guest))


def by_hand(book, door, guest, plan):
    """The book behind a thing that has a plan's form."""
    for k, (hand, word) in enumerate(plan):
        why = "hand" if hand in (door, guest) else byhand.barred(book, ("say", hand, word))
        if why:
            return "NoPaper", why, k
        book = byhand.behind(book, ("say", hand, word))
    return book


class Plans(unittest.TestCase):
    def told(self, plan, book=BOOK, door="al", guest="cy"):
        """How many are free behind it, told by both that look at it."""
        behind = refused(behind_plan, book, door, guest, plan)
        told = refused(lets_plan, book, door, guest, plan)
        if isinstance(told, tuple):
            self.assertEqual(behind, told)
        else:
            self.assertIs(type(told), int)
            self.assertEqual(told, byhand.free(behind, door, guest))
        return told

    def test_sums_do_what_no_single_word_does(self):
        self.assertEqual(self.told((("bo", (0, 1)),)), 1)
        self.assertEqual(self.told((("bo", (0,)),)), 0)
        self.assertEqual(self.told((("bo", (1,)),)), 0)
        self.assertEqual(self.told((("bo", (0,)), ("bo", (1,)))), 0)
        self.assertEqual(asked(behind_plan, BOOK, "al", "cy", (("bo", (0, 1)),)), (*BOOK[:4], ((0, 1),)))

    def test_void_plan(self):
        self.assertEqual(self.told(()), 0)
        self.assertEqual(self.told((), door="bo"), 1)
        self.assertEqual(asked(behind_plan, BOOK, "al", "cy", ()), BOOK)

    def test_by_names(self):
        plan = (("bo", (0, 1)),)
        self.assertEqual(lets_plan(thing=plan, guest="cy", door="al", book=BOOK), 1)
        self.assertEqual(behind_plan(thing=plan, guest="cy", door="al", book=BOOK)[4], ((0, 1),))

    def test_shape(self):
        for thing in (
            None, 0, True, "plan", "", [], [("bo", (0,))], ("bo", (0,)), ("bo",), (("bo",),), (["bo", (0,)],),
            (("bo", (0,), 1),), (("bo", [0]),), (("bo", ()),), (("bo", (1, 0)),), (("bo", (True,)),), (("bo", (-1,)),),
            (("bo", 0),), (("Bo", (0,)),), (("", (0,)),), ((0, (0,)),), ((None, (0,)),), (("bo", None),), ((),),
            (("bo", (0, 1)), None), (("al", (0,)), ("bo", ())), (("zed", (9,)), ("bo", [])), ((("bo", (0,)),),),
            (("bo", (0, 0)),), (("abcdefghi", (0,)),), ((("bo",), (0,)),), (("bo", ((0,),)),),
        ):
            self.assertEqual(self.told(thing), ("NoPaper", "shape", -1), thing)

    def test_hand(self):
        for plan, k in (
            ((("al", (0,)),), 0), ((("cy", (1,)),), 0), ((("al", (9,)),), 0), ((("zed", (0,)),), 0),
            ((("bo", (0,)), ("cy", (0,))), 1), ((("bo", (0,)), ("al", (0,))), 1), ((("zed", (9,)), ("bo", (9,))), 0),
            ((("bo", (0,)), ("bo", (1,)), ("b", (0, 1))), 2),
        ):
            self.assertEqual(self.told(plan), ("NoPaper", "hand", k), plan)
        self.assertEqual(self.told((("bo", (0,)),), door="bo"), ("NoPaper", "hand", 0))

    def test_word(self):
        for plan, k in (
            ((("bo", (2,)),), 0), ((("bo", (0, 2)),), 0), ((("bo", (10 ** 59,)),), 0),
            ((("bo", (0,)), ("bo", (7,))), 1),
        ):
            self.assertEqual(self.told(plan), ("NoPaper", "word", k), plan)
        self.assertEqual(self.told((("al", (1,)),), door="bo"), ("NoPaper", "word", 0))

    def test_made_by_what_was_said_ahead(self):
        book = rows(byhand.NAMES[:4], ((), ((0,),), ((0, 1),), ()))
        self.assertEqual(self.told((("cy", (1,)), ("bo", (0,))), book, "al", "di"), ("NoPaper", "word", 0))
        self.assertEqual(self.told((("bo", (0,)), ("cy", (1,))), book, "al", "di"), 0)

    def test_there(self):
        said = (*BOOK[:4], ((0,),))
        self.assertEqual(self.told((("bo", (0,)),), said), ("NoPaper", "there", 0))
        self.assertEqual(self.told((("bo", (0, 1)), ("bo", (0, 1)))), ("NoPaper", "there", 1))
        self.assertEqual(self.told((("bo", (0,)), ("bo", (1,)), ("bo", (0,)))), ("NoPaper", "there", 2))
        self.assertEqual(self.told((("bo", (0,)), ("bo", (1,)), ("bo", (0, 1)))), 0)

    def test_told_plans_are_let_by(self):
        for book, door, guest in byhand.drawn(362, 80):
            plan = plan_of(book, door, guest)
            self.assertEqual(self.told(plan, book, door, guest), least_sides(book, door, guest)[0])

    def test_drawn(self):
        rng = random.Random(363)
        seen = {}
        for book, door, guest in byhand.drawn(364, 500, most_hands=5, most_meetings=7):
            plan, now = [], book
            for _ in range(rng.randint(0, 5)):
                deed = byhand.draw_deed(rng, now, "say")
                if deed and (deed[1] not in (door, guest) or rng.random() < 0.1):
                    plan.append(deed[1:])
                    now = byhand.behind(now, deed)
            if rng.random() < 0.4:
                wrong = (rng.choice((*book[1], "zed")), rng.choice((byhand.draw_word(rng, 8), *now[4])))
                plan.insert(rng.randint(0, len(plan)), wrong)
            plan = tuple(plan)
            behind = by_hand(book, door, guest, plan)
            told = refused(behind_plan, book, door, guest, plan)
            self.assertEqual(told, behind)
            self.assertTrue(byhand.plain(told))
            self.told(plan, book, door, guest)
            seen[told[1] if told[0] == "NoPaper" else "let"] = True
        self.assertEqual(sorted(seen), ["hand", "let", "there", "word"])

    def test_drawn_spoilt(self):
        rng = random.Random(365)
        for _ in range(900):
            plan = byhand.spoilt(rng, (("bo", (0, 1)), ("bo", (1,))))
            told = self.told(plan)
            if told == ("NoPaper", "shape", -1):
                self.assertFalse(self.is_formed(plan), plan)
            else:
                self.assertTrue(self.is_formed(plan), plan)
                behind = by_hand(BOOK, "al", "cy", plan)
                self.assertEqual(told, behind if behind[0] == "NoPaper" else byhand.free(behind, "al", "cy"))
        for _ in range(500):
            thing = byhand.draw_thing(rng)
            if not self.is_formed(thing):
                self.assertEqual(self.told(thing), ("NoPaper", "shape", -1))

    def is_formed(self, thing):
        return type(thing) is tuple and byhand.plain(thing) and all(
            type(pair) is tuple and len(pair) == 2 and type(pair[0]) is str and 1 <= len(pair[0]) <= 8
            and pair[0].isascii() and pair[0].isalpha() and pair[0].islower() and type(pair[1]) is tuple and pair[1]
            and all(type(m) is int and m >= 0 for m in pair[1]) and list(pair[1]) == sorted({*pair[1]})
            for pair in thing
        )

    def test_refused_by_the_class(self):
        for function in (behind_plan, lets_plan):
            with self.assertRaises(NoPaper):
                function(BOOK, "al", "cy", None)


class AllSayings(unittest.TestCase):
    def test_all_sayings_of_small_books(self):
        raised = 0
        for book, door, guest in byhand.drawn(366, 300, most_hands=4, most_meetings=4):
            if len(byhand.made_by(book, book[1])) > 16 * len(byhand.all_made(book[4])):
                continue
            least = least_sides(book, door, guest)[0]
            for side in sides_of(book, door, guest):
                self.assertGreaterEqual(held_by(book, side), least)
            self.assertEqual(max(self.behind_all(book, door, guest, book[1])), least)
            helpers = [hand for hand in book[1] if hand not in (door, guest)]
            self.assertEqual(max(self.behind_all(book, door, guest, helpers)), least)
            raised += free_to(book, door, guest) < least
        self.assertGreater(raised, 1)

    def test_held_behind_all_sayings(self):
        fewer = same = 0
        for book, door, guest in byhand.drawn(367, 60, most_hands=4, most_meetings=4):
            made = sorted(byhand.made_by(book, book[1]) - byhand.all_made(book[4]))
            for side in sides_of(book, door, guest):
                ours = byhand.made_by(book, side)
                theirs = byhand.made_by(book, [hand for hand in book[1] if hand not in side])
                for bits in made:
                    if bits in ours or bits in theirs:
                        held = held_by(byhand.behind_say(book, byhand.word(bits)), side)
                        self.assertEqual(held, held_by(book, side) - (bits in ours and bits in theirs))
                        fewer += held < held_by(book, side)
                        same += held == held_by(book, side)
        self.assertGreater(min(fewer, same), 50)

    def behind_all(self, book, door, guest, speakers):
        """How many are free behind all rows of says of these hands."""
        seen = {book[4]: book}
        ends = [book]
        while ends:
            further = []
            for now in ends:
                for hand in speakers:
                    for bits in byhand.made_by(now, (hand,)) - byhand.all_made(now[4]):
                        later = byhand.behind_say(now, byhand.word(bits))
                        # Boards that make the same let the same be said, and be free.
                        key = frozenset(byhand.all_made(later[4]))
                        if key not in seen:
                            seen[key] = later
                            further.append(later)
            ends = further
        return [free_to(now, door, guest) for now in seen.values()]
