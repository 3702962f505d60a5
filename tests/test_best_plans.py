import random
import unittest

from metbefore.bars import least_bar, strong_for
from metbefore.bestplans import best_plan
from metbefore.histories import last_book
from metbefore.leastsides import least_sides
from metbefore.sayings import behind_plan
from tests import byhand
from tests.byhand import asked, refused

FOUR = ("al", "bo", "cy", "di")
# al has (0), cy (1), bo both.
BRIDGED = (4, ("al", "bo", "cy"), (("meet", ("al", "bo")), ("meet", ("bo", "cy"))))
# al has (0), cy (0, 1), di (1), by whose say alone they come to one.
RAISED = (4, FOUR, (("meet", ("al", "cy")), ("meet", ("cy", "di")), ("fold", "cy", (0,), (1,))))


def all_makings(history, books, lot, door, guest):
    """Of each making, as all bits that the board makes then, the strength behind it."""
    false = dict(lot)
    helpers = [hand for hand in history[1] if hand not in false and hand not in (door, guest)]
    book, known = books[-1], byhand.went_by(books, lot)
    first = frozenset(byhand.all_made(book[4]))
    strengths = {}
    ends = [first]
    while ends:
        making = ends.pop()
        if making not in strengths:
            board = [byhand.word(bits) for bits in making]
            one, other = (byhand.all_made([*board, *byhand.purse_of(book, hand)]) for hand in (door, guest))
            both = [byhand.word(bits) for bits in one & other]
            strengths[making] = byhand.beyond(both, [*known, *board])
            for hand in helpers:
                for bits in byhand.all_made([*board, *byhand.purse_of(book, hand)]) - making:
                    ends.append(making | {bits ^ one for one in making})
    return strengths


class BestPlan(unittest.TestCase):
    def check(self, history, books, lot, door, guest):
        """The best, by all makings gone through, and how many these are."""
        strengths = all_makings(history, books, lot, door, guest)
        told = asked(best_plan, history, lot, door, guest)
        self.assertTrue(byhand.plain(told))
        best, plan = told
        self.assertEqual(best, max(strengths.values()))
        self.assertTrue(all(hand not in dict(lot) for hand, _ in plan))
        behind_plan(books[-1], door, guest, plan)
        said = (*history[:2], (*history[2], *[("say", *pair) for pair in plan]))
        self.assertEqual(strong_for(said, lot, door, guest), best)
        many = len(strengths)
        self.assertEqual(asked(best_plan, history, lot, door, guest, most=many)[0], best)
        self.assertEqual(asked(best_plan, history, lot, door, guest, most=many + 1)[0], best)
        self.assertEqual(refused(best_plan, history, lot, door, guest, most=many - 1), ("NoMore", many - 1))
        self.assertEqual(refused(best_plan, history, lot, door, guest, most=0), ("NoMore", 0))
        self.assertLessEqual(best, least_bar(history, lot, door, guest)[0])
        return told, many

    def own(self, history, lot, door, guest):
        """The same, with the books done by hand."""
        room, hands, deeds = history
        books = [(room, hands, (), ((),) * len(hands), ())]
        for deed in deeds:
            books.append(byhand.behind(books[-1], deed))
        return self.check(history, tuple(books), lot, door, guest)

    def test_bridge(self):
        told, many = self.own(BRIDGED, (), "al", "cy")
        self.assertEqual(told, (1, (("bo", (0, 1)),)))
        self.assertEqual(many, 5)
        self.assertEqual(best_plan(guest="al", door="cy", lot=(), history=BRIDGED, most=5), told)

    def test_no_hand_outside_may_help(self):
        for lot in ((("bo", 0),), (("bo", 2),)):
            told, many = self.own(BRIDGED, lot, "al", "cy")
            self.assertEqual((told, many), ((0, ()), 1))

    def test_false_one_who_never_had_it(self):
        # bo, false from the first, knows (0) and (1); di, who isn't, says their sum: that is no strength then.
        history = (4, FOUR, (("meet", ("al", "bo", "di")), ("meet", ("bo", "cy", "di"))))
        told, _ = self.own(history, (("bo", 0),), "al", "cy")
        self.assertEqual(told, (0, ()))
        history = (4, FOUR, (("meet", ("al", "di")), ("meet", ("cy", "di")), ("meet", ("bo", "di"))))
        self.assertEqual(self.own(history, (("bo", 0),), "al", "cy")[0], (1, (("di", (0, 1)),)))

    def test_a_say_of_the_lot_is_no_plan(self):
        told, many = self.own(RAISED, (("di", 0),), "al", "cy")
        self.assertEqual((told, many), ((0, ()), 1))
        self.assertEqual(self.own(RAISED, (), "al", "cy")[0], (1, (("di", (1,)),)))

    def test_what_is_said_is_known(self):
        # By (0) of bo al and cy come to nothing: by (0, 1) to one.
        history = (4, FOUR, (("meet", ("al", "bo", "di")), ("meet", ("bo", "cy")), ("meet", ("al", "cy"))))
        told, _ = self.own(history, (("di", 0),), "al", "cy")
        self.assertEqual(told[0], 1)

    def test_no_plan_helps(self):
        history = (4, FOUR, (("meet", ("al", "bo")), ("meet", ("cy", "di"))))
        told, many = self.own(history, (), "al", "cy")
        self.assertEqual((told[0], many), (0, 4))
        history = (4, FOUR, (("meet", FOUR), ("meet", FOUR)))
        self.assertEqual(self.own(history, (), "al", "cy")[0], (2, ()))

    def test_without_deeds(self):
        self.assertEqual(self.own((1, FOUR, ()), (("bo", 0),), "al", "cy"), ((0, ()), 1))
        self.assertEqual(self.own((1, ("al", "bo"), (("meet", ("al", "bo")),)), (), "al", "bo"), ((1, ()), 1))

    def test_rank_five(self):
        hands = byhand.NAMES[:5]
        deeds = [("meet", hands[1:3]), ("meet", hands[1:4]), ("meet", hands[1:]), ("meet", hands[:2]),
                 ("meet", (hands[0], hands[4]))]
        told, many = self.own((4, hands, tuple(deeds)), (), "al", "ed")
        self.assertGreater(many, 50)
        self.assertEqual(told[0], least_sides(last_book((4, hands, tuple(deeds))), "al", "ed")[0])

    def test_more_than_most_left_out(self):
        # One helper has two words, three have four: far more makings than most come.
        hands = byhand.NAMES[:6]
        deeds = tuple(("meet", (hand,)) for hand in hands[1:5] for _ in range(4))
        self.assertEqual(refused(best_plan, (4, hands, deeds), (), "al", "fay"), ("NoMore", 4096))

    def test_said_words_that_the_board_makes(self):
        history = (4, ("al", "bo", "cy"), (
            ("meet", ("al", "bo")), ("meet", ("bo", "cy")), ("say", "bo", (0,)), ("say", "cy", (1,)),
        ))
        told, many = self.own(history, (), "al", "cy")
        self.assertEqual((told, many), ((0, ()), 1))

    def test_most_by_name_alone(self):
        with self.assertRaises(TypeError):
            best_plan(BRIDGED, (), "al", "cy", 5)

    def test_drawn(self):
        rng = random.Random(371)
        kinds = ("meet", "meet", "meet", "meet", "fold", "fold", "say", "drop")
        for _ in range(300):
            history, books = byhand.draw_history(rng, most=10, kinds=kinds)
            self.check_drawn(rng, history, books, 4)

    def test_drawn_of_few_at_each_meeting(self):
        rng = random.Random(372)
        raised = lots = long = 0
        for _ in range(250):
            hands = byhand.NAMES[:rng.randint(3, 6)]
            books = [(5, hands, (), ((),) * len(hands), ())]
            deeds = []
            for _ in range(rng.randint(3, 5)):
                deeds.append(("meet", tuple(sorted(rng.sample(hands, rng.randint(2, 3))))))
            for deed in deeds:
                books.append(byhand.behind(books[-1], deed))
            for _ in range(rng.randint(0, 3)):
                deed = byhand.draw_deed(rng, books[-1], rng.choice(("fold", "fold", "drop")))
                if deed:
                    deeds.append(deed)
                    books.append(byhand.behind(books[-1], deed))
            history = 5, hands, tuple(deeds)
            lot, strong, told = self.check_drawn(rng, history, tuple(books), 5)
            raised += told[0] > strong
            lots += told[0] > strong and lot != ()
            long += told[0] > strong and len(told[1]) > 1
        self.assertGreater(raised, 20)
        self.assertGreater(lots, 5)
        self.assertGreater(long, 3)

    def check_drawn(self, rng, history, books, most_rank):
        """A drawn lot, how strong door and guest are against it, and the best that is told."""
        door, guest = rng.sample(history[1], 2)
        lot = byhand.draw_lot(rng, history, without=(door, guest))
        strong = strong_for(history, lot, door, guest)
        outside = [hand for hand in history[1] if hand not in dict(lot)]
        words = [word for hand in outside for word in byhand.purse_of(books[-1], hand)]
        if byhand.beyond(words, books[-1][4]) > most_rank:
            return lot, strong, (strong, ())
        told, _ = self.check(history, books, lot, door, guest)
        if lot == ():
            self.assertEqual(told[0], least_sides(books[-1], door, guest)[0])
        return lot, strong, told
