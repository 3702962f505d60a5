import itertools
import random
import unittest

from metbefore.errors import NoText
from metbefore.wordreadings import word_read, words_read
from metbefore.wordtexts import word_text, words_text
from tests import byhand, linehand
from tests.byhand import asked, refused

SIXTY = 10 ** 60 - 1
NO_WORDS = (
    "", " ", "-", "+", "..", ". ", " .", ".+0", "0+.", "01", "00", "0+01", "0+00", "1+0", "0+0", "2+1", "10+9", "+0",
    "0+",
    "0++1", "0 +1", "0+ 1", " 0", "0 ", "0\n", "\n0", "\n", "-1", "+1", "1_0", "0x1", "1.0", "a", "1a", "one", "True",
    "1" + "0" * 60, "0+1" + "0" * 60, "0" * 60, "0" * 61, "(0,)", "[0]", "1e2", "0;1", "0+1+1", "0+2+1",
)


def by_hand(text):
    """The word that a text writes, by going through its signs; None where it writes none."""
    if text == ".":
        return ()
    figures, meetings = "", []
    for sign in text + "+":
        if sign == "+":
            if not figures or len(figures) > 60 or (figures[0] == "0" and figures != "0"):
                return None
            meetings.append(int(figures))
            figures = ""
        elif sign in "0123456789":
            figures += sign
        else:
            return None
    return tuple(meetings) if meetings == sorted({*meetings}) else None


def otherwise(rng, text, signs=" +,.-0123456789a:\n"):
    """The text with one sign otherwise, more or less."""
    at = rng.randint(0, len(text))
    way = rng.randrange(3)
    return text[:at] + (rng.choice(signs) if way else "") + text[at + (way != 1):]


class WordRead(unittest.TestCase):
    def test_told(self):
        for text, word in (
            ("0+3+12", (0, 3, 12)), (".", ()), ("0", (0,)), ("7", (7,)), ("10", (10,)), ("9+10", (9, 10)),
            ("9" * 60, (SIXTY,)), ("0+1" + "0" * 59, (0, 10 ** 59)), ("9" * 59 + "8+" + "9" * 60, (SIXTY - 1, SIXTY)),
        ):
            told = asked(word_read, text)
            self.assertEqual(told, word)
            self.assertTrue(byhand.plain(told))
            self.assertEqual(word_text(told), text)
        self.assertEqual(word_read(line=3, text="1+2"), (1, 2))

    def test_no_text(self):
        for text in NO_WORDS:
            self.assertEqual(refused(word_read, text), ("NoText", 0, 0), text)
            self.assertEqual(refused(word_read, text, line=7), ("NoText", 7, 0), text)

    def test_the_very_line(self):
        line = 10 ** 59
        for function in (word_read, words_read):
            with self.assertRaises(NoText) as caught:
                function("x", line=line)
            self.assertIs(caught.exception.line, line)
            with self.assertRaises(TypeError):
                function("0", 0)

    def test_all_short_texts(self):
        for many in range(4):
            for signs in itertools.product("01+.,- ", repeat=many):
                text = "".join(signs)
                word = by_hand(text)
                self.assertEqual(refused(word_read, text), ("NoText", 0, 0) if word is None else word)
                self.check(text)

    def test_one_sign_otherwise(self):
        for text in ("0+3+12", "0+3,.,12", "-", ".", "9" * 60):
            for other in linehand.every_other(text):
                word = by_hand(other)
                self.assertEqual(refused(word_read, other), ("NoText", 0, 0) if word is None else word)
                self.check(other, 4)

    def check(self, text, line=0):
        """The words that a text writes, each part by hand; what is read is written as the same text."""
        parts = [] if text == "-" else [by_hand(part) for part in text.split(",")]
        told = refused(words_read, text, line=line)
        if None in parts:
            self.assertEqual(told, ("NoText", line, parts.index(None)))
        else:
            self.assertEqual(told, tuple(parts))
            self.assertEqual(words_text(told), text)

    def test_drawn_there_and_back(self):
        rng = random.Random(401)
        for _ in range(300):
            words = tuple(
                tuple(sorted({rng.randrange(rng.choice((4, 30, SIXTY))) for _ in range(rng.randint(0, 4))}))
                for _ in range(rng.randint(0, 5))
            )
            self.assertEqual(asked(words_read, words_text(words)), words)
            for word in words:
                self.assertEqual(asked(word_read, word_text(word)), word)
            self.check(otherwise(rng, words_text(words)), rng.randrange(9))
            text = otherwise(rng, word_text(words[0]) if words else ".")
            word = by_hand(text)
            self.assertEqual(refused(word_read, text), ("NoText", 0, 0) if word is None else word)


class WordsRead(unittest.TestCase):
    def test_told(self):
        for text, words in (
            ("0+3,.,12", ((0, 3), (), (12,))), ("-", ()), (".", ((),)), (".,.", ((), ())), ("0", ((0,),)),
            ("2,1,2,0+1", ((2,), (1,), (2,), (0, 1))), ("9" * 60 + ",.", ((SIXTY,), ())),
        ):
            told = asked(words_read, text)
            self.assertEqual(told, words)
            self.assertTrue(byhand.plain(told))
            self.assertEqual(words_text(told), text)
        self.assertEqual(words_read(line=3, text="1+2"), ((1, 2),))

    def test_no_text(self):
        for text, place in (
            ("", 0), (",", 0), ("0,", 1), (",0", 0), ("0,,1", 1), ("-,0", 0), ("0,-", 1), ("--", 0), ("- ", 0),
            ("0, 1", 1),
            ("0 ,1", 0), ("0,1+0", 1), ("0,1,2,02", 3), ("1+1,x", 0), ("0,1\n", 1), ("0;1", 0), (".,..", 1),
            ("0," + "1" * 61, 1), ("1" * 61, 0), ("0,1,", 2), (" ", 0), ("\n", 0),
        ):
            self.assertEqual(refused(words_read, text), ("NoText", 0, place), text)
            self.assertEqual(refused(words_read, text, line=5), ("NoText", 5, place), text)

    def test_parts_that_write_no_word(self):
        for text in NO_WORDS:
            if text != "-" and "," not in text:
                self.assertEqual(refused(words_read, text), ("NoText", 0, 0), text)
            if "," not in text:
                self.assertEqual(refused(words_read, "0+1,.," + text + ",x"), ("NoText", 0, 2), text)
