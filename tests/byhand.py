"""What the tests share: books drawn from a seed, and makings gone through sum by sum."""

import copy
import random

from metbefore.errors import NoPaper

NAMES = ("al", "bo", "cy", "di", "ed", "fay", "gus")


def number(word):
    """A word as a set of bits, bit m for meeting m."""
    bits = 0
    for meeting in word:
        bits ^= 1 << meeting
    return bits


def word(bits):
    """The word that such bits stand for."""
    return tuple(m for m in range(bits.bit_length()) if bits >> m & 1)


def all_made(words):
    """All sums of some of the words, each as bits."""
    made = {0}
    for one in words:
        if number(one) not in made:
            made |= {bits ^ number(one) for bits in made}
    return made


def power(many):
    """Which power of two that many is."""
    assert many & (many - 1) == 0
    return many.bit_length() - 1


def purse_of(book, hand):
    return book[3][book[1].index(hand)]


def made_by(book, hands):
    """All that some hands make together with the board."""
    words = list(book[4])
    for hand in hands:
        words += purse_of(book, hand)
    return all_made(words)


def held(book, side):
    """How many are held by a side, by counting what both make."""
    others = [hand for hand in book[1] if hand not in side]
    both = made_by(book, side) & made_by(book, others)
    return power(len(both)) - power(len(all_made(book[4])))


def free(book, door, guest):
    """How many are free to two hands."""
    both = made_by(book, (door,)) & made_by(book, (guest,))
    return power(len(both)) - power(len(all_made(book[4])))


def sides(book, door, guest):
    """All sides, out of all sets of hands."""
    hands = book[1]
    told = []
    for bits in range(1 << len(hands)):
        side = tuple(hand for k, hand in enumerate(hands) if bits >> k & 1)
        if door in side and guest not in side:
            told.append(side)
    return tuple(sorted(told))


def least(book, door, guest):
    counts = {side: held(book, side) for side in sides(book, door, guest)}
    fewest = min(counts.values())
    return fewest, tuple(sorted(side for side in counts if counts[side] == fewest))


def behind_say(book, said):
    room, hands, meetings, purses, board = book
    return room, hands, meetings, purses, tuple(sorted({*board, said}))


def with_purse(book, hand, purse):
    room, hands, meetings, purses, board = book
    at = hands.index(hand)
    return room, hands, meetings, purses[:at] + (tuple(sorted(purse)),) + purses[at + 1:], board


def rows(hands, purses, board=()):
    """A book of such purses, with twelve meetings of all."""
    return 4, hands, (hands,) * 12, purses, board


def draw_word(rng, many, longest=3):
    return tuple(sorted(rng.sample(range(many), rng.randint(1, min(many, longest)))))


def draw_book(rng, most_hands=7, most_meetings=12):
    """Any book by its kind: words in common, sums of others, words that the board makes."""
    hands = NAMES[:rng.choice((most_hands, rng.randint(2, most_hands)))]
    many = rng.randint(2, rng.choice((5, most_meetings)))
    room = rng.choice((1, 2, 3, 4, 4))
    meetings = tuple(tuple(sorted(rng.sample(hands, rng.randint(1, len(hands))))) for _ in range(many))
    pool = [draw_word(rng, many) for _ in range(rng.randint(2, many + 2))]
    pool += [word(number(rng.choice(pool)) ^ number(rng.choice(pool))) for _ in range(4)]
    pool = sorted({one for one in pool if one})
    sizes = [rng.choice((room, rng.randint(0, room))) for _ in hands]
    purses = tuple(tuple(sorted(rng.sample(pool, min(size, len(pool))))) for size in sizes)
    board = tuple(sorted({rng.choice(pool) for _ in range(rng.choice((0, 0, 1, rng.randint(0, 4))))}))
    return room, hands, meetings, purses, board


def draw_pair(rng, book):
    return tuple(rng.sample(book[1], 2))


def drawn(seed, many, **bounds):
    """Many drawn books, each with a door and a guest, either one ahead of the other."""
    rng = random.Random(seed)
    told = []
    for _ in range(many):
        book = draw_book(rng, **bounds)
        told.append((book, *draw_pair(rng, book)))
    return told


def plain(thing):
    """Whether a thing is of tuples, texts and ints alone, of just these kinds."""
    if type(thing) is tuple:
        return all(plain(part) for part in thing)
    return type(thing) in (int, str)


def asked(function, *things, **named):
    """What a function tells, handed in copies, which are the same behind the call."""
    before = repr((things, named))
    things, named = copy.deepcopy((things, named))
    told = function(*things, **named)
    assert repr((things, named)) == before, "what was handed in was changed"
    return told


def weird(rng):
    """A small thing of any kind."""
    return rng.choice((
        0, 1, 2, 3, -1, 10 ** 59, 10 ** 60 - 1, -(10 ** 59), True, False, None, "", "a", "al", "bo", "abcdefgh",
        "abcdefghi", "Al", "a1", " ", "~", "a\nb", "\n", "known", "free", "meet", "fold", "drop", "say", "ask",
        (), [], ((),), [[]], (0,), [0], (0, 1), (1, 0), (0, 0), (True,), (False, True), ((0,),), ("al",), (None,),
        (((((0,),),),),), ["al", 0], ("known", ()), ("free", (0,)), ("al", 0),
    ))


def draw_thing(rng, depth=5):
    """Any thing, tuples and lists within one another."""
    if depth == 0 or rng.random() < 0.3:
        return weird(rng)
    parts = [draw_thing(rng, depth - 1) for _ in range(rng.randint(0, 5))]
    return tuple(parts) if rng.random() < 0.7 else parts


def _changed(rng, thing):
    """Another thing in the place of one."""
    ways = [weird(rng), [thing], (thing,)]
    if isinstance(thing, tuple):
        ways += [list(thing), thing[::-1], thing + thing[-1:], thing[1:], thing[:-1], thing + (weird(rng),)] * 2
    elif isinstance(thing, int):
        ways += [bool(thing), -thing - 1, thing + 1, thing + 10 ** 59, str(thing)] * 2
    elif isinstance(thing, str):
        ways += [thing + "z", thing.upper(), thing + "\n", thing[1:]] * 2
    return rng.choice(ways)


def spoilt(rng, thing):
    """The thing with one place of it, at any depth, otherwise (now and then it stays as it is)."""
    if isinstance(thing, tuple) and thing and rng.random() < 0.85:
        at = rng.randrange(len(thing))
        return thing[:at] + (spoilt(rng, thing[at]),) + thing[at + 1:]
    return _changed(rng, thing)


def refused(function, *things, **named):
    """What a function tells, or the class, the word and the place by which it refuses."""
    try:
        return asked(function, *things, **named)
    except NoPaper as caught:
        return "NoPaper", caught.word, caught.at
