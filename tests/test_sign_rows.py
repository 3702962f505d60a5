import itertools
import random
import unittest

from metbefore.bounds import MOST
from metbefore.hadby import goes_by
from metbefore.histories import last_book
from metbefore.ranks import rank_beyond, rank_of
from metbefore.signrows import answers_of, sign_rows
from metbefore.wordsums import sign_of
from tests import byhand
from tests.byhand import asked, refused

SIXTY = 10 ** 59


def agreeing(many, told):
    """All rows that agree, each gone through."""
    rows = itertools.product((0, 1), repeat=many)
    return tuple(row for row in rows if all(sum(row[m] for m in word) % 2 == sign for word, sign in told))


def answering(rows, row):
    """The answers that come in these rows, counted."""
    counts = {}
    for signs in rows:
        answers = tuple(sum(signs[m] for m in word) % 2 for word in row)
        counts[answers] = counts.get(answers, 0) + 1
    return tuple(sorted(counts.items()))


def draw_told(rng, many):
    """Told signs, mostly some that can all be so."""
    signs = [rng.randint(0, 1) for _ in range(many)]
    told = []
    for _ in range(rng.randint(0, many + 1)):
        word = byhand.word(rng.randrange(1 << many))
        told.append((word, sum(signs[m] for m in word) % 2 if rng.random() < 0.8 else rng.randint(0, 1)))
    return tuple(told + [rng.choice(told) for _ in range(rng.randint(0, 1)) if told])


class SignRows(unittest.TestCase):
    def test_told(self):
        self.assertEqual(asked(sign_rows, 2, ()), ((0, 0), (0, 1), (1, 0), (1, 1)))
        self.assertEqual(asked(sign_rows, 2, (((0, 1), 1),)), ((0, 1), (1, 0)))
        self.assertEqual(asked(sign_rows, 3, (((0, 1), 1), ((1, 2), 0))), ((0, 1, 1), (1, 0, 0)))
        self.assertEqual(asked(sign_rows, 3, (((1, 2), 0), ((0, 1), 1), ((0, 2), 1), ((), 0))), ((0, 1, 1), (1, 0, 0)))
        self.assertEqual(asked(sign_rows, 1, (((0,), 1), ((0,), 1))), ((1,),))
        self.assertEqual(sign_rows(told=(((0,), 0),), many=2), ((0, 0), (0, 1)))

    def test_many_nought(self):
        self.assertEqual(asked(sign_rows, 0, ()), ((),))
        self.assertEqual(asked(sign_rows, 0, (((), 0), ((), 0))), ((),))
        self.assertEqual(asked(sign_rows, 0, (((), 1),)), ())

    def test_none_agrees(self):
        for told in (
            (((0,), 1), ((0,), 0)), (((), 1),), (((0, 1), 1), ((1, 2), 1), ((0, 2), 1)),
            (((1,), 0), ((), 1), ((0,), 1)),
        ):
            for most in (0, 1, 4096):
                self.assertEqual(asked(sign_rows, 3, told, most=most), ())
                self.assertEqual(asked(answers_of, 3, told, ((0,),), most=most), ())
                self.assertEqual(asked(answers_of, 3, told, (), most=most), ())
            self.assertEqual(asked(sign_rows, SIXTY, told), ())

    def test_no_meeting(self):
        for many, told, number in (
            (2, (((2,), 0),), 2), (2, (((0, 1), 0), ((0, 3), 1), ((2,), 1)), 3), (0, (((0,), 1),), 0),
            (3, (((0, 5, 9), 0), ((4,), 1)), 5), (2, (((), 1), ((7,), 1)), 7), (SIXTY, (((SIXTY,), 0),), SIXTY),
        ):
            for most in (0, 4096):
                self.assertEqual(refused(sign_rows, many, told, most=most), ("NoMeeting", number))
                self.assertEqual(refused(answers_of, many, told, ((99,),), most=most), ("NoMeeting", number))

    def test_no_meeting_of_the_row(self):
        for row, number in ((((0,), (2,)), 2), (((0, 1, 8), (5,)), 8), (((SIXTY,),), SIXTY)):
            for told in ((), (((), 1),), (((0,), 1),)):
                self.assertEqual(refused(answers_of, 2, told, row, most=0), ("NoMeeting", number))

    def test_most(self):
        told = (((0, 1), 1),)
        for most in (8, 9, 4096, SIXTY):
            self.assertEqual(len(asked(sign_rows, 4, told, most=most)), 8)
            self.assertEqual(asked(answers_of, 4, told, ((0, 1),), most=most), (((1,), 8),))
        for most in (0, 1, 4, 7):
            self.assertEqual(refused(sign_rows, 4, told, most=most), ("NoMore", most))
            self.assertEqual(refused(answers_of, 4, told, ((0, 1),), most=most), ("NoMore", most))
        self.assertEqual(refused(sign_rows, 0, (), most=0), ("NoMore", 0))
        self.assertEqual(asked(sign_rows, 0, (), most=1), ((),))
        self.assertEqual(asked(sign_rows, 1, (((0,), 1),), most=1), ((1,),))

    def test_just_most(self):
        rows = asked(sign_rows, 12, ())
        self.assertEqual(len(rows), MOST)
        self.assertEqual(rows, agreeing(12, ()))
        self.assertEqual(refused(sign_rows, 13, ()), ("NoMore", 4096))
        self.assertEqual(refused(answers_of, 13, (), ((0,),)), ("NoMore", 4096))
        self.assertEqual(asked(answers_of, 12, (), ((0, 3),)), (((0,), 2048), ((1,), 2048)))
        self.assertEqual(len(asked(sign_rows, 13, (((3, 12), 1),))), 4096)
        self.assertEqual(len(asked(sign_rows, 13, (), most=8192)), 8192)

    def test_far_too_many(self):
        self.assertEqual(refused(sign_rows, SIXTY, ()), ("NoMore", 4096))
        self.assertEqual(refused(sign_rows, SIXTY, (((5, SIXTY - 1), 1),), most=SIXTY), ("NoMore", SIXTY))
        self.assertEqual(refused(answers_of, SIXTY, (), ((0,), (3, SIXTY - 1))), ("NoMore", 4096))

    def test_most_by_name_alone(self):
        with self.assertRaises(TypeError):
            sign_rows(2, (), 4)
        with self.assertRaises(TypeError):
            answers_of(2, (), (), 4)

    def test_drawn_against_all_rows(self):
        rng = random.Random(351)
        none = 0
        for _ in range(300):
            many = rng.randint(0, 6)
            told = draw_told(rng, many)
            rows = agreeing(many, told)
            none += not rows
            self.assertEqual(asked(sign_rows, many, told), rows)
            self.assertTrue(byhand.plain(sign_rows(many, told)))
            if rows:
                self.assertEqual(len(rows), 1 << many - rank_of([word for word, _ in told]))
                self.assertEqual(refused(sign_rows, many, told, most=len(rows) - 1), ("NoMore", len(rows) - 1))
                self.assertEqual(asked(sign_rows, many, told, most=len(rows)), rows)
        self.assertGreater(none, 10)


class AnswersOf(unittest.TestCase):
    def test_told(self):
        self.assertEqual(asked(answers_of, 2, (), ((0,),)), (((0,), 2), ((1,), 2)))
        self.assertEqual(asked(answers_of, 2, (), ()), (((), 4),))
        self.assertEqual(asked(answers_of, 0, (), ()), (((), 1),))
        self.assertEqual(asked(answers_of, 2, (((0, 1), 1),), ((1,), (0,))), (((0, 1), 1), ((1, 0), 1)))
        self.assertEqual(answers_of(row=((0,),), told=(((0,), 1),), many=1), (((1,), 1),))

    def test_row_that_the_told_words_make(self):
        told = (((0, 1), 1), ((1, 2), 1))
        self.assertEqual(asked(answers_of, 4, told, ((0, 2), (1, 2), (0, 1))), (((0, 1, 1), 4),))

    def test_row_of_sums_of_each_other(self):
        self.assertEqual(
            asked(answers_of, 3, (), ((0,), (1,), (0, 1))),
            (((0, 0, 0), 2), ((0, 1, 1), 2), ((1, 0, 1), 2), ((1, 1, 0), 2)),
        )
        self.assertEqual(asked(answers_of, 2, (((1,), 1),), ((0, 1), (0,))), (((0, 1), 1), ((1, 0), 1)))

    def test_many_words(self):
        row = tuple(byhand.word(bits) for bits in range(1, 64))
        told = asked(answers_of, 6, (((0, 5), 1),), row)
        self.assertEqual(told, answering(agreeing(6, (((0, 5), 1),)), row))

    def test_few_answers_of_many_rows(self):
        told = asked(answers_of, 60, (((2, 50), 1),), ((50,), (2,)), most=10 ** 20)
        self.assertEqual(told, (((0, 1), 1 << 58), ((1, 0), 1 << 58)))

    def test_drawn_against_all_rows(self):
        rng = random.Random(352)
        for _ in range(400):
            many = rng.randint(1, 6)
            told = draw_told(rng, many)
            row = draw_row(rng, many)
            rows = agreeing(many, told)
            answers = asked(answers_of, many, told, row)
            self.assertEqual(answers, answering(rows, row))
            self.assertTrue(byhand.plain(answers))
            if rows:
                self.assertEqual(len(answers), 1 << rank_beyond(row, [word for word, _ in told]))
                self.assertEqual(len({often for _, often in answers}), 1)
                self.assertEqual(refused(answers_of, many, told, row, most=len(rows) - 1), ("NoMore", len(rows) - 1))
                self.assertEqual(asked(answers_of, many, told, row, most=len(rows)), answers)

    def test_answers_to_a_lot(self):
        rng = random.Random(353)
        for _ in range(100):
            history, books = byhand.draw_history(rng)
            lot = byhand.draw_lot(rng, history)
            many = len(last_book(history)[2])
            if not 0 < many < 9:
                continue
            signs = [rng.randint(0, 1) for _ in range(many)]
            known = goes_by(history, lot)
            row = draw_row(rng, many)
            answers = answers_of(many, tuple((word, sign_of(word, signs)) for word in known), row)
            self.assertEqual(len(answers), 1 << byhand.beyond(row, known))
            self.assertIn(tuple(sign_of(word, signs) for word in row), dict(answers))


def draw_row(rng, many):
    """A row of unlike words, none void."""
    some = rng.sample(range(1, 1 << many), min(rng.randint(0, 5), (1 << many) - 1))
    return tuple(byhand.word(bits) for bits in some)
