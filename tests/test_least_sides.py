import unittest

from metbefore.leastsides import least_sides
from metbefore.sides import held_by, sides_of
from tests import byhand
from tests.byhand import asked, rows

ALL = ("al", "bo", "cy")


class LeastSides(unittest.TestCase):
    def test_one_least(self):
        book = rows(ALL, (((0,), (1,)), ((0,),), ((1,),)))
        self.assertEqual(asked(least_sides, book, "al", "cy"), (1, (("al", "bo"),)))
        self.assertEqual(asked(least_sides, book, "cy", "al"), (1, (("cy",),)))
        self.assertEqual(asked(least_sides, book, "bo", "cy"), (1, (("al", "bo"), ("bo",))))

    def test_all_least(self):
        book = rows(ALL, (((0,),), ((0,), (1,)), ((1,),)))
        self.assertEqual(asked(least_sides, book, "al", "cy"), (1, (("al",), ("al", "bo"))))

    def test_two_hands_alone(self):
        book = rows(("al", "bo"), (((0,), (1,)), ((0, 1), (2,))))
        self.assertEqual(asked(least_sides, book, "al", "bo"), (1, (("al",),)))
        self.assertEqual(asked(least_sides, book, "bo", "al"), (1, (("bo",),)))

    def test_board_makes_all(self):
        book = rows(ALL, (((0,),), ((0, 1),), ((1,),)), ((0,), (1,)))
        self.assertEqual(asked(least_sides, book, "al", "bo"), (0, (("al",), ("al", "cy"))))

    def test_void_purses(self):
        book = rows(ALL, ((), (), ()))
        self.assertEqual(asked(least_sides, book, "bo", "al"), (0, (("bo",), ("bo", "cy"))))

    def test_drawn_against_all_sums(self):
        for book, door, guest in byhand.drawn(11, 120):
            told = asked(least_sides, book, door, guest)
            self.assertEqual(told, byhand.least(book, door, guest))
            self.assertTrue(byhand.plain(told))
            self.assertEqual(least_sides(guest=guest, book=book, door=door), told)

    def test_other_way_about(self):
        for book, door, guest in byhand.drawn(12, 60):
            held, sides = least_sides(book, door, guest)
            others = tuple(sorted(tuple(hand for hand in book[1] if hand not in side) for side in sides))
            self.assertEqual(least_sides(book, guest, door), (held, others))

    def test_both_and_either(self):
        for book, door, guest in byhand.drawn(13, 100):
            _, sides = least_sides(book, door, guest)
            for one in sides:
                for other in sides:
                    self.assertIn(tuple(sorted({*one} & {*other})), sides)
                    self.assertIn(tuple(sorted({*one} | {*other})), sides)

    def test_least_of_all_sides(self):
        for book, door, guest in byhand.drawn(14, 60):
            held, sides = least_sides(book, door, guest)
            for side in sides_of(book, door, guest):
                self.assertEqual(held_by(book, side) == held, side in sides)
                self.assertGreaterEqual(held_by(book, side), held)
