"""What several tests need: webs, going through all pairings, and things that are bent."""

import copy
import random
from fractions import Fraction


def nested(kind, depth):
    """Empty tuples or lists within one another."""
    thing = kind()
    for step in range(depth - 1):
        thing = kind([thing])
    return thing


ODD_THINGS = (
    nested(tuple, 20), nested(list, 20), (1,) * 19000 + (None,), (2, ((0, 1), nested(tuple, 18))),
    None, True, False, 0, 1, -1, 7, 10 ** 39, -(10 ** 39), "", "a", "bare", "4 0-1", (), [], ((),), ([],), [()],
    (0,), (1,), (True,), (None,), ("",), [0], [1], (0, 0), (0, 1), [0, 1], (0, ()), (0, []), [0, ()], (False, ()),
    (1, 2, 3), ((), ()), [(), ()], ((), (), ()), (((((), ),),),), (0, ((0, 1),)), (2, [(0, 1)]), (2, ([0, 1],)),
)


def full(n):
    return n, tuple((i, j) for i in range(n) for j in range(i + 1, n))


def line(n):
    return n, tuple((k, k + 1) for k in range(n - 1))


def ring(n):
    return n, tuple(sorted(line(n)[1] + ((0, n - 1),)))


def star(n):
    return n, tuple((0, k) for k in range(1, n))


def bare(n):
    return n, ()


def drawn_web(source, n, chance):
    return n, tuple(tie for tie in full(n)[1] if source.random() < chance)


def drawn_tree(source, n):
    """A tree whose places are numbered in no order."""
    names = list(range(n))
    source.shuffle(names)
    pairs = [(names[source.randrange(k)], names[k]) for k in range(1, n)]
    return n, tuple(sorted((min(pair), max(pair)) for pair in pairs))


def some_webs(most=9, each=6, seed=1):
    """Webs of 0 to most places: bare, full, lines, rings, stars, and drawn ones."""
    source = random.Random(seed)
    webs = []
    for n in range(most + 1):
        webs += [bare(n), full(n), line(n), star(n)]
        if n >= 3:
            webs.append(ring(n))
        webs += [drawn_web(source, n, source.choice((0.15, 0.3, 0.5, 0.8))) for again in range(each)]
    return list(dict.fromkeys(webs))


def all_pairings(web):
    """Every pairing, by taking or leaving each tie in turn."""
    found = [()]
    for tie in web[1]:
        found += [p + (tie,) for p in found if not any(set(tie) & set(other) for other in p)]
    return found


def row_gone_through(web):
    sizes = [len(pairing) for pairing in all_pairings(web)]
    return tuple(sizes.count(size) for size in range(max(sizes) + 1))


def product_of(polys):
    """The product of polys, number by number, without the package."""
    total = [1]
    for poly in polys:
        numbers = [0] * (len(total) + len(poly) - 1)
        for i, left in enumerate(total):
            for j, right in enumerate(poly):
                numbers[i + j] += left * right
        total = numbers
    return tuple(total)


class Piece:
    """A poly of which it is known how many of its roots, none of which it has twice, are below a Fraction."""

    def __init__(self, poly, many, below):
        self.poly = poly
        self.many = many
        self.below = below


def root_piece(top, bottom=1):
    """Of the root top / bottom."""
    return Piece((-top, bottom), 1, lambda at: int(at > Fraction(top, bottom)))


def square_piece(n):
    """Of the roots of n, n above 0, no square."""
    return Piece((-n, 0, 1), 2, lambda at: int(at > 0 or at * at < n) + int(at > 0 and at * at > n))


PIECES = (
    root_piece(0), root_piece(1), root_piece(-1), root_piece(5), root_piece(-7, 2), root_piece(2, 3),
    root_piece(707, 500), root_piece(10 ** 6 + 1, 10 ** 6), root_piece(-4000),
    square_piece(2), square_piece(3), square_piece(50),
    Piece((1, 0, 1), 0, lambda at: 0), Piece((1, 1, 1), 0, lambda at: 0), Piece((3, 0, 0, 0, 2), 0, lambda at: 0),
)
REAL_PIECES = tuple(piece for piece in PIECES if piece.many)


def drawn_pieces(source, most, pieces=PIECES):
    """Pieces, some of them again and again, whose degrees sum to at most so much."""
    taken = []
    choice = source.sample(pieces, 3)
    degree = 0
    while True:
        piece = source.choice(choice)
        degree += len(piece.poly) - 1
        if degree > most:
            return taken
        taken.append(piece)


def fraction_of(number):
    """The FRACTION that a Fraction is."""
    return number.numerator, number.denominator


def kind_bends(thing):
    """Copies of a thing of tuples, numbers and texts, each with one part, at any depth, of another kind."""
    if isinstance(thing, tuple):
        yield list(thing)
        for k, part in enumerate(thing):
            for other in kind_bends(part):
                yield thing[:k] + (other,) + thing[k + 1:]
    elif isinstance(thing, str):
        yield thing + "s"
    else:
        yield str(thing)
        yield (thing,)
        if thing in (0, 1):
            yield bool(thing)
    yield None
    yield [thing]


def exact(thing):
    """A text that tells truths from numbers and lists from tuples."""
    return repr(thing)


def assert_unchanged(case, action, *things):
    """Asks twice of things that hold lists, and sees that they are as they were."""
    kept = copy.deepcopy(things)
    first = outcome(action, *things)
    second = outcome(action, *things)
    case.assertEqual(exact(things), exact(kept))
    case.assertEqual(first, second)


def outcome(action, *things):
    """What an action tells or refuses, as something that can be compared."""
    try:
        return exact(action(*things))
    except ValueError as refusal:
        return exact((refusal.__class__.__name__, vars(refusal)))


def assert_refused(case, kind, fields, action, *things):
    """Sees that the action refuses with just this kind of error and these fields, True being no 1."""
    with case.assertRaises(kind) as caught:
        action(*things)
    case.assertIs(caught.exception.__class__, kind)
    case.assertEqual(exact(vars(caught.exception)), exact(fields))


def assert_no_paper(case, word, place, action, *things):
    from pairtally.errors import NoPaper
    assert_refused(case, NoPaper, {"word": word, "place": place}, action, *things)


def assert_truth(case, expected, told, about):
    """Sees that what is told is True or False itself."""
    case.assertIs(told, expected, about)
