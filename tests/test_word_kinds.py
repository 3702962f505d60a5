import random
import unittest

from metbefore import wordkinds
from tests import byhand
from tests.byhand import asked

SIXTY = 10 ** 59
KINDS = ("is_name", "is_meeting", "is_sign", "is_word", "are_words", "is_row", "are_signs")

YES = {
    "is_name": ("a", "z", "abcdefgh", "al"),
    "is_meeting": (0, 1, 16, SIXTY, 10 ** 100),
    "is_sign": (0, 1),
    "is_word": ((), (0,), (0, 1, 5), (3, SIXTY), tuple(range(400))),
    "are_words": ((), ((),), ((), (0,)), ((0,), (0, 1), (1,)), ((SIXTY,),), tuple((k,) for k in range(400))),
    "is_row": ((), ((0,),), ((1,), (0, 1), (0,)), tuple((k,) for k in range(20))),
    "are_signs": ((), (0,), (1, 1, 0), (0,) * 300),
}
NO = {
    "is_name": (
        "", "abcdefghi", "A", "aB", "a1", "a b", "a\n", "a~", "a-b", "`", "{", 0, None, True, ("a",), ["a"], ("a", "b"),
        "\xe4", "\xdf",
    ),
    "is_meeting": (-1, -SIXTY, True, False, None, "0", "", (), (0,), [0]),
    "is_sign": (2, -1, SIXTY, True, False, None, "0", "1", (0,), [1]),
    "is_word": (
        [], [0], (0, 0), (1, 0), (0, 2, 1), (True,), (False,), (0, True), (-1, 0), ((0,),), ("a",), (None,), 0, None,
        "",
    ),
    "are_words": (
        [], [()], ((0,), ()), ((0,), (0,)), ((), ()), ((1,), (0,)), ((0, 1), (0,)), ([0],), ((0,), [1]), ((1, 0),),
        ((True,),), (0,), 0, None, "", ((0,), (-1,)), (((0,),),),
    ),
    "is_row": (
        [], ((),), ((0,), ()), ((0,), (0,)), ((0,), (1,), (0,)), ([0],), ((1, 0),), ((True,),), (0,), 0, None, "",
        ((-1,),), [(0,)],
    ),
    "are_signs": ([], [0], (2,), (0, 1, 2), (True,), (0, False), (None,), ("0",), ((0,),), 0, None, "", (-1,)),
}


class WordKinds(unittest.TestCase):
    def test_yes(self):
        for kind in KINDS:
            for thing in YES[kind]:
                self.assertIs(asked(getattr(wordkinds, kind), thing), True, (kind, thing))

    def test_no(self):
        for kind in KINDS:
            for thing in NO[kind]:
                self.assertIs(asked(getattr(wordkinds, kind), thing), False, (kind, thing))

    def test_by_name(self):
        for kind in KINDS:
            self.assertIs(getattr(wordkinds, kind)(thing=YES[kind][0]), True)
            self.assertIs(getattr(wordkinds, kind)(thing=NO[kind][0]), False)

    def test_drawn_any_thing(self):
        rng = random.Random(61)
        for _ in range(1500):
            thing = byhand.draw_thing(rng)
            for kind in KINDS:
                self.assertIn(asked(getattr(wordkinds, kind), thing), (True, False))

    def test_drawn_words(self):
        rng = random.Random(62)
        for _ in range(300):
            meetings = [rng.randint(0, 9) for _ in range(rng.randint(0, 5))]
            rising = meetings == sorted(set(meetings))
            self.assertIs(asked(wordkinds.is_word, tuple(meetings)), rising)
            words = [byhand.word(rng.randint(0, 7)) for _ in range(rng.randint(0, 4))]
            self.assertIs(asked(wordkinds.are_words, tuple(words)), words == sorted(set(words)))
            unlike = len(words) == len(set(words)) and () not in words
            self.assertIs(asked(wordkinds.is_row, tuple(words)), unlike)

    def test_deep_and_large(self):
        deep = 0
        for _ in range(20):
            deep = (deep,)
        for kind in KINDS:
            self.assertIs(asked(getattr(wordkinds, kind), deep), False)
            self.assertIs(asked(getattr(wordkinds, kind), (0,) * 4999 + (None,)), False)
        self.assertIs(asked(wordkinds.is_word, tuple(range(5000))), True)
        self.assertIs(asked(wordkinds.are_signs, (1,) * 5000), True)
