"""What the tests share: books drawn from a seed, and makings gone through sum by sum."""

import copy
import random

from metbefore.errors import LackError, MetError

NAMES = ("al", "bo", "cy", "di", "ed", "fay", "gus")


def number(word):
    """A word as a set of bits, bit m for meeting m."""
    bits = 0
    for meeting in word:
        bits ^= 1 << meeting
    return bits


def word(bits):
    """The word that such bits stand for."""
    return tuple(m for m in range(bits.bit_length()) if bits >> m & 1)


def all_made(words):
    """All sums of some of the words, each as bits."""
    made = {0}
    for one in words:
        if number(one) not in made:
            made |= {bits ^ number(one) for bits in made}
    return made


def power(many):
    """Which power of two that many is."""
    assert many & (many - 1) == 0
    return many.bit_length() - 1


def purse_of(book, hand):
    return book[3][book[1].index(hand)]


def made_by(book, hands):
    """All that some hands make together with the board."""
    words = list(book[4])
    for hand in hands:
        words += purse_of(book, hand)
    return all_made(words)


def held(book, side):
    """How many are held by a side, by counting what both make."""
    others = [hand for hand in book[1] if hand not in side]
    both = made_by(book, side) & made_by(book, others)
    return power(len(both)) - power(len(all_made(book[4])))


def free(book, door, guest):
    """How many are free to two hands."""
    both = made_by(book, (door,)) & made_by(book, (guest,))
    return power(len(both)) - power(len(all_made(book[4])))


def sides(book, door, guest):
    """All sides, out of all sets of hands."""
    hands = book[1]
    told = []
    for bits in range(1 << len(hands)):
        side = tuple(hand for k, hand in enumerate(hands) if bits >> k & 1)
        if door in side and guest not in side:
            told.append(side)
    return tuple(sorted(told))


def least(book, door, guest):
    counts = {side: held(book, side) for side in sides(book, door, guest)}
    fewest = min(counts.values())
    return fewest, tuple(sorted(side for side in counts if counts[side] == fewest))


def behind_say(book, said):
    room, hands, meetings, purses, board = book
    return room, hands, meetings, purses, tuple(sorted({*board, said}))


def with_purse(book, hand, purse):
    room, hands, meetings, purses, board = book
    at = hands.index(hand)
    return room, hands, meetings, purses[:at] + (tuple(sorted(purse)),) + purses[at + 1:], board


def rows(hands, purses, board=()):
    """A book of such purses, with twelve meetings of all."""
    return 4, hands, (hands,) * 12, purses, board


def draw_word(rng, many, longest=3):
    return tuple(sorted(rng.sample(range(many), rng.randint(1, min(many, longest)))))


def draw_book(rng, most_hands=7, most_meetings=12):
    """Any book by its kind: words in common, sums of others, words that the board makes."""
    hands = NAMES[:rng.choice((most_hands, rng.randint(2, most_hands)))]
    many = rng.randint(2, rng.choice((5, most_meetings)))
    room = rng.choice((1, 2, 3, 4, 4))
    meetings = tuple(tuple(sorted(rng.sample(hands, rng.randint(1, len(hands))))) for _ in range(many))
    pool = [draw_word(rng, many) for _ in range(rng.randint(2, many + 2))]
    pool += [word(number(rng.choice(pool)) ^ number(rng.choice(pool))) for _ in range(4)]
    pool = sorted({one for one in pool if one})
    sizes = [rng.choice((room, rng.randint(0, room))) for _ in hands]
    purses = tuple(tuple(sorted(rng.sample(pool, min(size, len(pool))))) for size in sizes)
    board = tuple(sorted({rng.choice(pool) for _ in range(rng.choice((0, 0, 1, rng.randint(0, 4))))}))
    return room, hands, meetings, purses, board


def draw_pair(rng, book):
    return tuple(rng.sample(book[1], 2))


def drawn(seed, many, **bounds):
    """Many drawn books, each with a door and a guest, either one ahead of the other."""
    rng = random.Random(seed)
    told = []
    for _ in range(many):
        book = draw_book(rng, **bounds)
        told.append((book, *draw_pair(rng, book)))
    return told


def plain(thing):
    """Whether a thing is of tuples, texts and ints alone, of just these kinds."""
    if type(thing) is tuple:
        return all(plain(part) for part in thing)
    return type(thing) in (int, str)


def asked(function, *things, **named):
    """What a function tells, handed in copies, which are the same behind the call."""
    before = repr((things, named))
    things, named = copy.deepcopy((things, named))
    try:
        return function(*things, **named)
    finally:
        assert repr((things, named)) == before, "what was handed in was changed"


def weird(rng):
    """A small thing of any kind."""
    return rng.choice((
        0, 1, 2, 3, -1, 10 ** 59, 10 ** 60 - 1, -(10 ** 59), True, False, None, "", "a", "al", "bo", "abcdefgh",
        "abcdefghi", "Al", "a1", " ", "~", "a\nb", "\n", "known", "free", "meet", "fold", "drop", "say", "ask",
        (), [], ((),), [[]], (0,), [0], (0, 1), (1, 0), (0, 0), (True,), (False, True), ((0,),), ("al",), (None,),
        (((((0,),),),),), ["al", 0], ("known", ()), ("free", (0,)), ("al", 0),
    ))


def draw_thing(rng, depth=5):
    """Any thing, tuples and lists within one another."""
    if depth == 0 or rng.random() < 0.3:
        return weird(rng)
    parts = [draw_thing(rng, depth - 1) for _ in range(rng.randint(0, 5))]
    return tuple(parts) if rng.random() < 0.7 else parts


def _changed(rng, thing):
    """Another thing in the place of one."""
    ways = [weird(rng), [thing], (thing,)]
    if isinstance(thing, tuple):
        ways += [list(thing), thing[::-1], thing + thing[-1:], thing[1:], thing[:-1], thing + (weird(rng),)] * 2
    elif isinstance(thing, int):
        ways += [bool(thing), -thing - 1, thing + 1, thing + 10 ** 59, str(thing)] * 2
    elif isinstance(thing, str):
        ways += [thing + "z", thing.upper(), thing + "\n", thing[1:]] * 2
    return rng.choice(ways)


def spoilt(rng, thing):
    """The thing with one place of it, at any depth, otherwise (now and then it stays as it is)."""
    if isinstance(thing, tuple) and thing and rng.random() < 0.85:
        at = rng.randrange(len(thing))
        return thing[:at] + (spoilt(rng, thing[at]),) + thing[at + 1:]
    return _changed(rng, thing)


def refused(function, *things, **named):
    """What a function tells, or the class and the fields, the word and the place of NoPaper, by which it refuses."""
    try:
        return asked(function, *things, **named)
    except (MetError, LackError) as caught:
        return (type(caught).__name__, *vars(caught).values())


def xor(words):
    """The sum of words, as bits."""
    bits = 0
    for one in words:
        bits ^= number(one)
    return bits


def beyond(words, others):
    """The rank of the words beyond the others, by counting what is made."""
    return power(len(all_made([*others, *words]))) - power(len(all_made(others)))


def is_base(base, made):
    """Whether it is the base of words that make all these bits."""
    rising = list(base) == sorted(set(base)) and () not in base and all(list(one) == sorted(set(one)) for one in base)
    apart = all(one == other or one[0] not in other for one in base for other in base)
    return plain(base) and rising and apart and all_made(base) == made


def hands_of(deed):
    """The hands that a deed names."""
    return {"meet": lambda: deed[1], "ask": lambda: deed[1:3]}.get(deed[0], lambda: (deed[1],))()


def barred(book, deed):
    """By what a deed is barred, or None."""
    kind = deed[0]
    if not {*hands_of(deed)} <= {*book[1]} or (kind == "ask" and len({*hands_of(deed)}) == 1):
        return "hand"
    if kind == "meet" and max(len(purse_of(book, hand)) for hand in deed[1]) == book[0]:
        return "room"
    if kind in ("fold", "drop") and not {*deed[2:]} <= {*purse_of(book, deed[1])}:
        return "word"
    if kind in ("say", "ask"):
        told = (deed[2],) if kind == "say" else deed[3] + deed[4]
        for hand in hands_of(deed):
            made = made_by(book, (hand,))
            if not all(one[-1] < len(book[2]) and number(one) in made for one in told):
                return "word"
    return "there" if kind == "say" and deed[2] in book[4] else None


def behind(book, deed):
    """The book behind a deed that can be done."""
    room, hands, meetings, purses, board = book
    purses = {hand: {*purse} for hand, purse in zip(hands, purses)}
    board = {*board}
    if deed[0] == "meet":
        for hand in deed[1]:
            purses[hand].add((len(meetings),))
        meetings = meetings + (deed[1],)
    elif deed[0] == "fold":
        purses[deed[1]] -= {deed[2], deed[3]}
        purses[deed[1]].add(word(number(deed[2]) ^ number(deed[3])))
    elif deed[0] == "drop":
        purses[deed[1]].remove(deed[2])
    elif deed[0] == "say":
        board.add(deed[2])
    else:
        board |= {*deed[3], *deed[4]}
    return room, hands, meetings, tuple(tuple(sorted(purses[hand])) for hand in hands), tuple(sorted(board))


def draw_some(rng, made, least, most):
    """Unlike words out of those made, none void; None where there are too few."""
    made = sorted(made - {0})
    if len(made) < least:
        return None
    return tuple(word(bits) for bits in rng.sample(made, rng.randint(least, min(most, len(made)))))


def draw_deed(rng, book, kind=None):
    """A deed that can be done at a book, now and then; None where none was found."""
    kind = kind or rng.choice(("meet", "meet", "meet", "fold", "fold", "drop", "say", "say", "ask"))
    hand, other = rng.sample(book[1], 2)
    purse = purse_of(book, hand)
    if kind == "meet":
        free = [one for one in book[1] if len(purse_of(book, one)) < book[0]]
        if not free or len(book[2]) >= 12:
            return None
        return "meet", tuple(sorted(rng.sample(free, rng.randint(1, len(free)))))
    if kind == "fold":
        return ("fold", hand, *rng.sample(purse, 2)) if len(purse) > 1 else None
    if kind == "drop":
        return ("drop", hand, rng.choice(purse)) if purse else None
    if kind == "say":
        said = draw_some(rng, made_by(book, (hand,)) - {number(one) for one in book[4]}, 1, 1)
        return said and ("say", hand, said[0])
    both = made_by(book, (hand,)) & made_by(book, (other,))
    row = draw_some(rng, both, 1, 3)
    return row and ("ask", hand, other, draw_some(rng, both, 0, 2), row)


def draw_history(rng, most=16, most_hands=5, kinds=(None,)):
    """Any history of up to most deeds, of these kinds where some are told, and its books."""
    hands = NAMES[:rng.randint(2, most_hands)]
    room = rng.choice((1, 2, 3, 4, 4))
    books = [(room, hands, (), ((),) * len(hands), ())]
    deeds = []
    for _ in range(rng.choice((most, rng.randint(0, most)))):
        deed = draw_deed(rng, books[-1], rng.choice(kinds))
        # The board stays small, so that something is still known to some alone.
        if deed and (deed[0] not in ("say", "ask") or len(books[-1][4]) < rng.randint(0, 6)):
            deeds.append(deed)
            books.append(behind(books[-1], deed))
    return (room, hands, tuple(deeds)), tuple(books)


def draw_lot(rng, history, most=2, without=()):
    """Any lot of a history, of hands but those told."""
    hands = [hand for hand in history[1] if hand not in without]
    some = sorted(rng.sample(hands, rng.randint(0, min(most, len(hands)))))
    last = len(history[2])
    return tuple((hand, rng.choice((0, last, rng.randint(0, last)))) for hand in some)


def had(books, lot):
    """All words that stood with one of the lot from its since on."""
    told = set()
    for hand, since in lot:
        for book in books[since:]:
            told |= {*purse_of(book, hand)}
    return tuple(sorted(told))


def went_by(books, lot):
    """What a lot goes by."""
    return tuple(sorted({*had(books, lot), *books[-1][4]}))


def draw_words(rng, many=6, most=7):
    """Words in any order, some twice, the void one too."""
    words = [word(rng.randrange(1 << many)) for _ in range(rng.randint(0, most))]
    words += [rng.choice(words) for _ in range(rng.choice((0, 2))) if words]
    rng.shuffle(words)
    return tuple(words)


def draw_shared(rng, most_meetings=6, most_hands=5, asks=1):
    """A history in which two of the hands were nearly everywhere, the others here and there; and its books."""
    hands = NAMES[:rng.randint(2, most_hands)]
    room = rng.choice((1, 2, 3, 4, 4, 4, 4))
    pair = rng.sample(hands, 2)
    books = [(room, hands, (), ((),) * len(hands), ())]
    deeds = []
    kinds = ["fold", "fold", "drop", "say"] + ["ask"] * asks

    def go(deed):
        deeds.append(deed)
        books.append(behind(books[-1], deed))

    for _ in range(rng.randint(1, most_meetings)):
        there = [hand for hand in hands if rng.random() < (0.95 if hand in pair else 0.45)]
        there = [hand for hand in there if len(purse_of(books[-1], hand)) < room]
        if there:
            go(("meet", tuple(there)))
        if rng.random() < 0.4:
            kind = rng.choice(kinds)
            deed = draw_deed(rng, books[-1], kind)
            if deed and (kind not in ("fold", "drop") or deed[1] not in pair):
                go(deed)
    return (room, hands, tuple(deeds)), tuple(books), pair


def draw_look(rng, history, books, pair):
    """Two hands to ask about, and how: strength, count, since and shown, now and then left out."""
    door, guest = pair if rng.random() < 0.8 else rng.sample(history[1], 2)
    many = len(history[2])
    how = {"strength": rng.choice((1, 1, 2, 3, 4, 5)), "count": rng.choice((0, 1, 1, 1, 2, 3, 7))}
    how["since"] = rng.choice((0, many, rng.randint(0, many)))
    both = made_by(books[-1], (door,)) & made_by(books[-1], (guest,))
    how["shown"] = draw_some(rng, both, 0, 2) or ()
    return door, guest, {name: how[name] for name in how if rng.random() < 0.85}


def lots_of(history, door, guest, count=1, since=0):
    """All lots of so many of the others, by going through all sets of them."""
    others = [hand for hand in history[1] if hand not in (door, guest)]
    many = min(count, len(others))
    told = []
    for bits in range(1 << len(others)):
        lot = tuple((hand, since) for k, hand in enumerate(others) if bits >> k & 1)
        if len(lot) == many:
            told.append(lot)
    return sorted(told)


def rank(numbers):
    """The rank of words as bits, by taking the highest bit of each out of the others."""
    ends = {}
    for bits in numbers:
        while bits and bits.bit_length() in ends:
            bits ^= ends[bits.bit_length()]
        if bits:
            ends[bits.bit_length()] = bits
    return len(ends)


def small(thing):
    """The thing with small numbers in the place of great ones, which are beyond all that is there as well."""
    if isinstance(thing, tuple):
        return tuple(small(part) for part in thing)
    return 40 + thing % 10 if type(thing) is int and thing > 1000 else thing
