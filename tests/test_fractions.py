import fractions
import random
import unittest

from metbefore.fractions import is_fraction, one_less, product_of
from tests import byhand
from tests.byhand import asked

SIXTY = 10 ** 59


class IsFraction(unittest.TestCase):
    def test_fractions(self):
        for thing in ((0, 1), (1, 1), (1, 2), (3, 2), (7, 1), (SIXTY, SIXTY + 1), (1, 2 ** 200)):
            self.assertIs(asked(is_fraction, thing), True, thing)
        self.assertIs(is_fraction(thing=(1, 2)), True)

    def test_others(self):
        for thing in (
            (0, 0), (1, 0), (0, 2), (0, SIXTY), (2, 2), (2, 4), (SIXTY, SIXTY), (-1, 2), (1, -2), (-1, -2), (0, -1),
            (True, 2), (1, True), (False, 1), (True, True), [1, 2], (1,), (1, 2, 3), (), ((1, 2),), ("1", "2"),
            (1, None), (None, 1), 1, 0, None, True, "", "1/2", ((1,), (2,)),
        ):
            self.assertIs(asked(is_fraction, thing), False, thing)

    def test_drawn(self):
        rng = random.Random(141)
        for _ in range(300):
            over, under = rng.randint(0, 30), rng.randint(1, 30)
            lowest = fractions.Fraction(over, under)
            self.assertIs(asked(is_fraction, (over, under)), (lowest.numerator, lowest.denominator) == (over, under))
        for _ in range(500):
            thing = byhand.spoilt(rng, (3, 4))
            told = asked(is_fraction, thing)
            self.assertIs(type(told), bool)
            self.assertTrue(not told or byhand.plain(thing))
            self.assertIs(asked(is_fraction, (thing, thing, thing)), False)


class Products(unittest.TestCase):
    def test_told(self):
        self.assertEqual(asked(product_of, ()), (1, 1))
        self.assertEqual(asked(product_of, ((1, 2),)), (1, 2))
        self.assertEqual(asked(product_of, ((1, 2), (2, 3))), (1, 3))
        self.assertEqual(asked(product_of, ((3, 4), (0, 1), (5, 7))), (0, 1))
        self.assertEqual(asked(product_of, ((3, 2), (2, 3))), (1, 1))
        self.assertEqual(product_of(fractions=((1, SIXTY), (SIXTY, 3))), (1, 3))

    def test_drawn(self):
        rng = random.Random(142)
        for _ in range(200):
            parts = [fractions.Fraction(rng.randint(0, 12), rng.randint(1, 12)) for _ in range(rng.randint(0, 6))]
            product = fractions.Fraction(1)
            for part in parts:
                product *= part
            told = asked(product_of, tuple((part.numerator, part.denominator) for part in parts))
            self.assertEqual(told, (product.numerator, product.denominator))
            self.assertTrue(byhand.plain(told))
            self.assertIs(is_fraction(told), True)


class OneLess(unittest.TestCase):
    def test_told(self):
        self.assertEqual(asked(one_less, (1, 4)), (3, 4))
        self.assertEqual(asked(one_less, (0, 1)), (1, 1))
        self.assertEqual(asked(one_less, (1, 1)), (0, 1))
        self.assertEqual(one_less(fraction=(1, SIXTY)), (SIXTY - 1, SIXTY))

    def test_drawn(self):
        rng = random.Random(143)
        for _ in range(200):
            under = rng.randint(1, 40)
            part = fractions.Fraction(rng.randint(0, under), under)
            told = asked(one_less, (part.numerator, part.denominator))
            self.assertEqual(told, ((1 - part).numerator, (1 - part).denominator))
            self.assertTrue(byhand.plain(told))
