import collections
import itertools
import random
import unittest

from metbefore.rests import rest_of
from metbefore.rowsought import is_enough, sought
from metbefore.strengths import full_strength, strength_of
from tests import byhand
from tests.byhand import asked

FIVE = ("al", "bo", "cy", "di", "ed")
# Behind the last deed cy knows (0,), di knows (1,), ed knows their sum alone.
THREE = (4, FIVE, (
    ("meet", ("al", "bo", "cy", "ed")), ("meet", ("al", "bo", "di", "ed")), ("fold", "ed", (0,), (1,)),
))
ALL = ("al", "bo", "cy")


def made_of(history, *words):
    """A history with such words, of meetings of their own, in the purses of al and bo, met and folded there."""
    deeds = []
    for word in words:
        first = sum(deed[0] == "meet" for deed in deeds)
        for k in range(word):
            deeds.append(("meet", ("al", "bo")))
        held = (first,)
        for k in range(1, word):
            for hand in ("al", "bo"):
                deeds.append(("fold", hand, held, (first + k,)))
            held = (*held, first + k)
    return (*history[:2], tuple(deeds))


def by_hand(history, books, door, guest, strength=1, count=1, since=0, shown=()):
    """What is sought, by going through all rows of all that both make, the fewest words first, the least of these."""
    both = byhand.made_by(books[-1], (door,)) & byhand.made_by(books[-1], (guest,)) - {0}
    words = sorted(byhand.word(bits) for bits in both)
    lots = byhand.lots_of(history, door, guest, count, since)
    knowns = {}
    for lot in lots:
        known = [byhand.number(word) for word in (*byhand.went_by(books, lot), *shown)]
        knowns[lot] = known, byhand.rank(known)
    for many in range(1, 5):
        for row in itertools.combinations(words, many):
            bits = [byhand.number(word) for word in row]
            if all(byhand.rank(known + bits) - rank >= strength for known, rank in knowns.values()):
                return "row", row
    return "sent", min(lot for lot in lots if byhand.beyond(words, (*byhand.went_by(books, lot), *shown)) < strength)


class IsEnough(unittest.TestCase):
    def test_told(self):
        for row, how, told in (
            (((0,), (1,)), {"since": 3}, True), (((0,), (0, 1)), {"since": 3}, True),
            (((0, 1), (1,)), {"since": 3}, True),
            (((0,), (1,), (0, 1)), {"since": 3}, True), (((0,),), {"since": 3}, False), (((1,),), {"since": 3}, False),
            (((0, 1),), {"since": 3}, False), (((0,), (1,)), {"since": 3, "strength": 2}, False), ((), {}, False),
            (((0,), (1,)), {"count": 0, "strength": 2}, True), (((0,), (1,)), {"count": 0, "strength": 3}, False),
            (((0,),), {"count": 0}, True), (((0,),), {"count": 0, "strength": 2}, False), (((0,), (1,)), {}, False),
            (((0,), (1,)), {"since": 3, "shown": ((0,),)}, False), (((0,), (1,)), {"count": 0, "shown": ((0,),)}, True),
            (((0,),), {"count": 0, "shown": ((0,),)}, False), (((0,), (1,)), {"count": 2, "since": 3}, False),
            (((0,), (1,)), {"count": 0, "strength": 10 ** 59}, False), ((), {"count": 0}, False),
        ):
            self.assertIs(asked(is_enough, THREE, "al", "bo", row, **how), told, (row, how))
        how = {"shown": (), "since": 3, "count": 1, "strength": 1}
        named = is_enough(row=((1,), (0,)), guest="al", door="bo", history=THREE, **how)
        self.assertIs(named, True)

    def test_both_can_make_all_of_it(self):
        self.assertIs(asked(is_enough, THREE, "al", "cy", ((0,),), count=0), True)
        for row in (((1,),), ((0,), (1,)), ((0, 1), (0,)), ((0, 1),)):
            for door, guest in (("al", "cy"), ("cy", "al")):
                self.assertIs(asked(is_enough, THREE, door, guest, row, count=0), False)
        # What is shown both can make, so it brings neither of them more.
        self.assertIs(asked(is_enough, THREE, "al", "cy", ((0, 1),), count=0, shown=((0,),)), False)

    def test_no_more_than_four_words(self):
        history = made_of((4, ALL, ()), 1, 1, 1, 1)
        four = ((0,), (1,), (2,), (3,))
        self.assertIs(asked(is_enough, history, "al", "bo", four, strength=4), True)
        self.assertIs(asked(is_enough, history, "al", "bo", four[:3], strength=3), True)
        self.assertIs(asked(is_enough, history, "al", "bo", (*four, (0, 1)), strength=4), False)
        self.assertIs(asked(is_enough, history, "al", "bo", (*four, (0, 1))), False)
        self.assertIs(asked(is_enough, history, "al", "bo", four, strength=5), False)

    def test_in_any_order(self):
        history = made_of((4, ALL, ()), 1, 1, 1)
        for row in itertools.permutations(((0, 2), (1,), (2,))):
            self.assertIs(asked(is_enough, history, "al", "bo", row, strength=3), True)

    def test_by_name_alone(self):
        with self.assertRaises(TypeError):
            is_enough(THREE, "al", "bo", ((0,),), 1)
        with self.assertRaises(TypeError):
            sought(THREE, "al", "bo", 1)

    def test_drawn(self):
        rng = random.Random(351)
        seen = collections.Counter()
        for _ in range(400):
            history, books, pair = byhand.draw_shared(rng)
            door, guest, how = byhand.draw_look(rng, history, books, pair)
            both = byhand.made_by(books[-1], (door,)) & byhand.made_by(books[-1], (guest,))
            among = both if rng.random() < 0.8 else {*range(1 << len(books[-1][2]))}
            row = byhand.draw_some(rng, among, 0, 5) or ()
            told = asked(is_enough, history, door, guest, row, **how)
            lots = byhand.lots_of(history, door, guest, how.get("count", 1), how.get("since", 0))
            shown = how.get("shown", ())
            strong = all(strength_of(history, lot, row, shown=shown) >= how.get("strength", 1) for lot in lots)
            self.assertIs(told, 1 <= len(row) <= 4 and {byhand.number(word) for word in row} <= both and strong)
            seen[told] += 1
        self.assertGreater(min(seen.values()), 30)


class Sought(unittest.TestCase):
    def test_three_that_know_each_one(self):
        told = asked(sought, THREE, "al", "bo", since=3)
        self.assertEqual(told, ("row", ((0,), (0, 1))))
        self.assertEqual(sought(shown=(), since=3, count=1, strength=1, guest="al", door="bo", history=THREE), told)
        for row in (((0,),), ((1,),), ((0, 1),)):
            self.assertIs(is_enough(THREE, "al", "bo", row, since=3), False)
        for row in itertools.permutations(((0,), (1,), (0, 1)), 2):
            self.assertIs(is_enough(THREE, "al", "bo", row, since=3), True)

    def test_sent(self):
        for how, lot in (
            ({}, (("ed", 0),)), ({"since": 2}, (("ed", 2),)), ({"since": 3, "strength": 2}, (("cy", 3),)),
            ({"count": 0, "strength": 3}, ()), ({"count": 2, "since": 3}, (("cy", 3), ("di", 3))),
            ({"count": 4}, (("cy", 0), ("di", 0), ("ed", 0))), ({"since": 3, "shown": ((0,),)}, (("di", 3),)),
            ({"count": 0, "shown": ((0,), (1,))}, ()), ({"count": 10 ** 59}, (("cy", 0), ("di", 0), ("ed", 0))),
        ):
            self.assertEqual((how, asked(sought, THREE, "al", "bo", **how)), (how, ("sent", lot)))

    def test_nobody_can_be_told_apart(self):
        history = (4, FIVE, (("meet", FIVE), ("meet", FIVE), ("fold", "di", (0,), (1,))))
        for how, lot in (
            ({}, (("cy", 0),)), ({"since": 1}, (("cy", 1),)), ({"since": 3}, (("cy", 3),)), ({"count": 3}, None),
            ({"count": 2, "since": 3}, (("cy", 3), ("di", 3))), ({"strength": 2, "since": 3}, (("cy", 3),)),
        ):
            lot = lot or (("cy", 0), ("di", 0), ("ed", 0))
            self.assertEqual(asked(sought, history, "al", "bo", **how), ("sent", lot))
        self.assertEqual(asked(sought, history, "al", "bo", count=0), ("row", ((0,),)))

    def test_nothing_beyond_the_board(self):
        self.assertEqual(asked(sought, (1, ("al", "bo"), ()), "bo", "al"), ("sent", ()))
        self.assertEqual(asked(sought, THREE, "cy", "di", since=3), ("sent", (("al", 3),)))
        said = (*THREE[:2], THREE[2] + (("say", "al", (0,)), ("say", "bo", (1,))))
        for how in ({}, {"count": 0}, {"since": 5}):
            self.assertEqual(asked(sought, said, "al", "bo", **how)[0], "sent")

    def test_strengths(self):
        history = made_of((4, ALL, ()), 1, 1, 1, 1)
        rows = (((0,),), ((0,), (0, 1)), ((0,), (0, 1), (0, 1, 2)), ((0,), (0, 1), (0, 1, 2), (0, 1, 2, 3)))
        for strength, row in enumerate(rows, 1):
            self.assertEqual(asked(sought, history, "al", "bo", strength=strength), ("row", row))
        self.assertEqual(asked(sought, history, "al", "bo", strength=5), ("sent", (("cy", 0),)))
        self.assertEqual(asked(sought, history, "al", "bo", strength=5, count=0), ("sent", ()))

    def test_least_word_is_another_one_than_the_rest(self):
        # The board has (0, 1): of (0,) and (1,), which differ by it, (0,) is the least, the rest is (1,).
        deeds = (("meet", ("al", "bo")), ("meet", ("al", "bo")), ("say", "al", (0, 1)))
        self.assertEqual(asked(sought, (4, ALL, deeds), "al", "bo"), ("row", ((0,),)))
        self.assertEqual(rest_of(((0, 1),), (0,)), (1,))
        # Of (1,), (0, 1) and so on the least one begins with 0 and goes on as soon as it can.
        deeds = (("meet", ("cy",)), ("say", "cy", (0,)), ("meet", ("al", "bo")))
        self.assertEqual(asked(sought, (4, ALL, deeds), "al", "bo"), ("row", ((0, 1),)))
        deeds = (("meet", ("al", "bo")), ("meet", ("cy",)), ("say", "cy", (1,)))
        self.assertEqual(asked(sought, (4, ALL, deeds), "al", "bo"), ("row", ((0,),)))
        deeds = made_of((4, ALL, ()), 2)[2] + (("meet", ("cy",)), ("say", "cy", (2,)))
        self.assertEqual(asked(sought, (4, ALL, deeds), "al", "bo"), ("row", ((0, 1),)))
        deeds = (("meet", ("al", "bo")), ("meet", ("al", "bo")), ("meet", ("al", "bo")), ("say", "al", (0, 2)))
        self.assertEqual(asked(sought, (4, ALL, deeds), "al", "bo", strength=2), ("row", ((0,), (0, 1))))
        self.assertEqual(asked(sought, (4, ALL, deeds), "al", "bo", shown=((0,),)), ("row", ((0, 1),)))
        self.assertEqual(asked(sought, (4, ALL, deeds), "al", "bo", shown=((1,),)), ("row", ((0,),)))

    def test_room_for_more_than_four(self):
        # There are no bounds told beyond which it fails; all that both make is more than any row has.
        history = made_of((6, ALL, ()), 1, 1, 1, 1, 1)
        self.assertEqual(sought(history, "al", "bo", strength=4)[0], "row")
        self.assertEqual(sought(history, "al", "bo", strength=6), ("sent", (("cy", 0),)))
        self.assertEqual(sought(history, "al", "bo", strength=5)[0], "sent")

    def test_drawn_against_all_rows(self):
        rng = random.Random(352)
        seen = collections.Counter()
        for _ in range(500):
            history, books, pair = byhand.draw_shared(rng)
            door, guest, how = byhand.draw_look(rng, history, books, pair)
            if byhand.beyond([byhand.word(bits) for bits in byhand.made_by(books[-1], (door,))], ()) > 4:
                continue
            told = asked(sought, history, door, guest, **how)
            self.assertEqual(told, by_hand(history, books, door, guest, **how))
            self.assertTrue(byhand.plain(told))
            seen[told[0], len(told[1])] += 1
        self.assertGreater(seen["row", 1], 40)
        self.assertGreater(seen["row", 2], 10)
        self.assertGreater(seen["sent", 1], 40)

    def test_drawn_with_a_board(self):
        """Where the board makes much there are many words that differ by what it makes, of which one is the least."""
        rng = random.Random(353)
        rows = 0
        for _ in range(150):
            history, books, pair = byhand.draw_shared(rng, most_meetings=7)
            for _ in range(3):
                deed = byhand.draw_deed(rng, books[-1], "say")
                if deed:
                    history = (*history[:2], history[2] + (deed,))
                    books = (*books, byhand.behind(books[-1], deed))
            door, guest = pair
            both = byhand.made_by(books[-1], (door,)) & byhand.made_by(books[-1], (guest,))
            if len(both) > 32:
                continue
            how = {"count": rng.randint(0, 1), "since": len(history[2])}
            told = asked(sought, history, door, guest, **how)
            self.assertEqual(told, by_hand(history, books, door, guest, **how))
            rows += told[0] == "row"
        self.assertGreater(rows, 30)

    def test_drawn_never_both(self):
        rng = random.Random(354)
        for _ in range(250):
            history, books, pair = byhand.draw_shared(rng)
            door, guest, how = byhand.draw_look(rng, history, books, pair)
            kind, told = sought(history, door, guest, **how)
            strength, shown = how.get("strength", 1), how.get("shown", ())
            lots = byhand.lots_of(history, door, guest, how.get("count", 1), how.get("since", 0))
            weak = [lot for lot in lots if full_strength(history, door, guest, lot, shown=shown) < strength]
            if kind == "row":
                self.assertEqual(weak, [])
                self.assertIs(is_enough(history, door, guest, told, **how), True)
                self.assertIs(is_enough(history, guest, door, told[::-1], **how), True)
                self.assertEqual(list(told), sorted({*told}))
            else:
                self.assertEqual(told, weak[0])
            self.assertEqual(sought(history, guest, door, **how), (kind, told))
