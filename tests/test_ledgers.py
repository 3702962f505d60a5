import collections
import fractions
import random
import unittest

from metbefore.fractions import is_fraction
from metbefore.ledgers import ledger_of
from metbefore.strengths import strength_of
from tests import byhand
from tests.byhand import asked

HANDS = ("al", "bo", "cy", "di")
DEEDS = (
    ("meet", ("al", "bo", "cy")), ("meet", ("al", "bo")), ("ask", "al", "bo", (), ((0,), (1,))),
    ("meet", ("al", "bo", "di")), ("ask", "bo", "cy", (), ((0,),)), ("ask", "bo", "al", ((0, 1),), ((0, 2), (2,))),
)
HISTORY = (4, HANDS, DEEDS)


def sign(word, bits):
    return (byhand.number(word) & bits).bit_count() % 2


def by_hand(history, books, lot):
    """The tries, by counting what is made ahead of each "ask"."""
    tries = []
    for k, deed in enumerate(history[2]):
        false = [pair for pair in lot if pair[1] <= k]
        if deed[0] == "ask" and not {hand for hand, _ in false} & {*deed[1:3]}:
            known = (*byhand.had(books[:k + 1], false), *books[k][4], *deed[3])
            tries.append((k, byhand.beyond(deed[4], known)))
    return tuple(tries)


def share_let_in_at_none(rng, history, books, lot, tries):
    """Of all rows of signs those by which the false come in at none, each answering by what is known to them then."""
    many = len(books[-1][2])
    answers = {}
    none = 0
    for bits in range(1 << many):
        wrong = 0
        for k, _ in tries:
            _, door, guest, shown, row = history[2][k]
            known = (*byhand.had(books[:k + 1], [pair for pair in lot if pair[1] <= k]), *books[k][4], *shown)
            seen = tuple(sign(word, bits) for word in known)
            if (k, seen) not in answers:
                agree = [one for one in range(1 << many) if all(sign(w, one) == s for w, s in zip(known, seen))]
                guess = rng.choice(agree)
                answers[k, seen] = [sign(word, guess) for word in row]
            wrong += answers[k, seen] != [sign(word, bits) for word in row]
        none += wrong == len(tries)
    return fractions.Fraction(none, 1 << many)


class Ledger(unittest.TestCase):
    def test_told(self):
        for lot, ledger in (
            ((), (((2, 2), (4, 0), (5, 1)), (0, 1))),
            ((("cy", 0),), (((2, 1), (5, 1)), (1, 4))),
            ((("cy", 4),), (((2, 2), (5, 1)), (3, 8))),
            ((("cy", 5),), (((2, 2), (4, 0), (5, 1)), (0, 1))),
            ((("di", 0),), (((2, 2), (4, 0), (5, 0)), (0, 1))),
            ((("al", 0),), (((4, 0),), (0, 1))),
            ((("al", 3),), (((2, 2), (4, 0)), (0, 1))),
            ((("al", 2),), (((4, 0),), (0, 1))),
            ((("bo", 0),), ((), (1, 1))),
            ((("bo", 3),), (((2, 2),), (3, 4))),
            ((("bo", 6),), (((2, 2), (4, 0), (5, 1)), (0, 1))),
            ((("cy", 0), ("di", 0)), (((2, 1), (5, 0)), (0, 1))),
            ((("cy", 0), ("di", 6)), (((2, 1), (5, 1)), (1, 4))),
        ):
            told = asked(ledger_of, HISTORY, lot)
            self.assertEqual((lot, told), (lot, ledger))
            self.assertTrue(byhand.plain(told))
        self.assertEqual(ledger_of(lot=(("bo", 3),), history=HISTORY), (((2, 2),), (3, 4)))

    def test_without_an_ask(self):
        for deeds in ((), DEEDS[:2]):
            for lot in ((), (("al", 0),)):
                self.assertEqual(asked(ledger_of, (4, HANDS, deeds), lot), ((), (1, 1)))

    def test_strength_nought(self):
        history = (4, HANDS, DEEDS[:2] + (("say", "al", (1,)), ("ask", "al", "bo", (), ((1,),))))
        self.assertEqual(asked(ledger_of, history, ()), (((3, 0),), (0, 1)))

    def test_shown_counts(self):
        for shown, told in (((), (((2, 1),), (1, 2))), (((1,),), (((2, 1),), (1, 2))), (((0,),), (((2, 0),), (0, 1)))):
            history = (4, HANDS, DEEDS[:2] + (("ask", "al", "bo", shown, ((0,),)),))
            self.assertEqual(asked(ledger_of, history, ()), told)

    def test_what_was_asked_is_worth_nothing_again(self):
        history = (4, HANDS, DEEDS[:2] + (("ask", "al", "bo", (), ((0, 1),)), ("ask", "al", "bo", (), ((0,), (1,)))))
        self.assertEqual(asked(ledger_of, history, ()), (((2, 1), (3, 1)), (1, 4)))

    def test_word_got_behind_the_ask_is_not_had_then(self):
        # The words of a lot's later books take no part in an "ask" ahead of them.
        deeds = (("meet", ("al", "bo", "cy")), ("drop", "cy", (0,)), ("ask", "al", "bo", (), ((0,),)))
        for since, strength in ((0, 0), (1, 0), (2, 1), (3, 1)):
            self.assertEqual(ledger_of((4, HANDS, deeds), (("cy", since),))[0], ((2, strength),))

    def test_drawn(self):
        rng = random.Random(341)
        seen = collections.Counter()
        for _ in range(300):
            history, books, _ = byhand.draw_shared(rng, asks=7)
            lot = byhand.draw_lot(rng, history)
            tries, chance = asked(ledger_of, history, lot)
            self.assertEqual(tries, by_hand(history, books, lot))
            product = fractions.Fraction(1)
            for k, strength in tries:
                product *= 1 - fractions.Fraction(1, 2 ** strength)
                ahead, deed = (*history[:2], history[2][:k]), history[2][k]
                false = tuple(pair for pair in lot if pair[1] <= k)
                self.assertEqual(strength, strength_of(ahead, false, deed[4], shown=deed[3]))
            self.assertEqual(chance, (product.numerator, product.denominator))
            self.assertIs(is_fraction(chance), True)
            seen[len(tries)] += 1
        self.assertGreater(min(seen[k] for k in range(3)), 20)

    def test_drawn_chances_against_all_rows_of_signs(self):
        rng = random.Random(342)
        between = 0
        for _ in range(400):
            history, books, _ = byhand.draw_shared(rng, most_meetings=6, asks=20)
            lot = byhand.draw_lot(rng, history)
            tries, chance = ledger_of(history, lot)
            share = share_let_in_at_none(rng, history, books, lot, tries)
            self.assertEqual(chance, (share.numerator, share.denominator))
            between += 0 < share < 1
        self.assertGreater(between, 30)

    def test_drawn_gone_on_with(self):
        rng = random.Random(343)
        for _ in range(150):
            history, books, _ = byhand.draw_shared(rng, asks=7)
            upto = rng.randint(0, len(history[2]))
            ahead = (*history[:2], history[2][:upto])
            lot = byhand.draw_lot(rng, ahead)
            tries, chance = ledger_of(ahead, lot)
            more, other = ledger_of(history, lot)
            self.assertEqual(more[:len(tries)], tries)
            self.assertLessEqual(fractions.Fraction(*other), fractions.Fraction(*chance))
