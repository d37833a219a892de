import random
import unittest
from fractions import Fraction

from pairtally.polys import derived, poly_product, poly_sum, times
from pairtally.signchecker import changes, lets_signs
from tests.support import (
    ODD_THINGS, assert_no_paper, assert_unchanged, drawn_pieces, exact, fraction_of, kind_bends, product_of,
)

GREAT = 10 ** 100 + 1
# x squared less 2: it, it derived, and 1.
POLY = (-2, 0, 1)
POLYS = ((-2, 0, 1), (0, 2), (1,))
ROWS = ((2, 4, (0, 1)), (1, 1, (0, 2)))
PAPER = (POLYS, ROWS)
# (x - 1) (x - 1) x: its last poly goes into all of them.
TWICE = (0, 1, -2, 1)
TWICE_POLYS = (TWICE, (1, -4, 3), (-1, 1))
TWICE_ROWS = ((9, 2, (-2, 3)), (1, 5, (-1, 3)))


def put(things, k, thing):
    return things[:k] + (thing,) + things[k + 1:]


def drawn_paper(source, poly):
    """A paper that takes some needless rows: its polys may rise in degree in between."""
    polys = [poly, derived(poly)]
    rows = []
    for again in range(source.randrange(1, 4)):
        q = tuple(source.randrange(-4, 5) for k in range(source.randrange(2))) + (source.choice((-3, -1, 1, 2, 5)),)
        a = source.randrange(1, 4)
        third = poly_sum(poly_product(q, polys[-1]), times(polys[-2], -a))
        if third:
            rows.append((a, 1, q))
            polys.append(third)
    while True:
        a, q, rest = divided(polys[-2], polys[-1])
        rows.append((a, 1, q))
        if not rest:
            return tuple(polys), tuple(rows)
        polys.append(times(rest, -1))


def divided(one, other):
    """By a power of the square of the last number, which is above 0."""
    square = other[-1] ** 2
    a, q, rest = 1, (), one
    while len(rest) >= len(other):
        shift = len(rest) - len(other)
        here = (0,) * shift + (rest[-1] * other[-1],)
        a, q = a * square, poly_sum(times(q, square), here)
        rest = poly_sum(times(rest, square), times(poly_product(here, other), -1))
    return a, q, rest


class Right(unittest.TestCase):
    def assert_let_by(self, poly, paper):
        self.assertIs(lets_signs(poly, paper), True)

    def test_small_ones(self):
        self.assert_let_by(POLY, PAPER)
        self.assert_let_by(TWICE, (TWICE_POLYS, TWICE_ROWS))
        self.assert_let_by((3, -2), (((3, -2), (-2,)), ((2, 7, (-3, 2)),)))
        self.assert_let_by((0, 5), (((0, 5), (5,)), ((1, 1, (0, 1)),)))

    def test_made_lesser_or_greater(self):
        for c in (1, 2, 4, GREAT):
            # b times the third is 4, and a times the second is q times it.
            self.assert_let_by(POLY, (((-2, 0, 1), (0, 2), (4 * c,)), ((2 * c, 1, (0, c)), (2 * c, 1, (0, 1)))))
            self.assert_let_by(POLY, (POLYS, ((2 * c, 4 * c, (0, c)), (c, 3, (0, 2 * c)))))
            self.assert_let_by(times(POLY, c), (((-2 * c, 0, c), (0, 2 * c), (c,)), ROWS))
            self.assert_let_by(times(POLY, -c), (((2 * c, 0, -c), (0, -2 * c), (-c,)), ROWS))

    def test_what_the_last_b_is_does_not_count(self):
        for b in (1, 2, GREAT):
            self.assert_let_by(POLY, (POLYS, (ROWS[0], (1, b, (0, 2)))))

    def test_more_rows_than_needed(self):
        # Where q is nought, the poly two behind is the first one with the other sign.
        there = ((0, 3), (3,), (0, -3), (-3,), (0, 3), (3,))
        self.assert_let_by((0, 3), (there, ((1, 1, ()),) * 4 + ((1, 1, (0, 1)),)))
        again = ((0, 3), (3,), (0, 3), (-3,))
        self.assert_let_by((0, 3), (again, ((1, 1, (0, 2)), (1, 1, ()), (1, 1, (0, -1)))))
        rising = ((0, 3), (3,), (0, -1, 1), (-3,))
        self.assert_let_by((0, 3), (rising, ((1, 3, (0, 0, 1)), (1, 1, ()), (3, 1, (0, 1, -1)))))

    def test_great_numbers(self):
        poly = (-GREAT, 0, GREAT)
        polys = (poly, (0, 2 * GREAT), (GREAT,))
        self.assert_let_by(poly, (polys, ((2, 2, (0, 1)), (1, 1, (0, 2)))))
        self.assert_let_by(poly, (polys, ((2 * GREAT, 2 * GREAT, (0, GREAT)), (GREAT, 1, (0, 2 * GREAT)))))
        wrong = (polys, ((2 * GREAT, 2 * GREAT, (0, GREAT)), (GREAT, 1, (0, 2 * GREAT + 1))))
        assert_no_paper(self, "row", 1, lets_signs, poly, wrong)

    def test_what_is_let_by_is_so(self):
        source = random.Random(91)
        longer = 0
        for again in range(150):
            pieces = drawn_pieces(source, source.randrange(4, 8))
            poly = times(product_of([piece.poly for piece in pieces]), source.choice((1, -1, 6)))
            paper = drawn_paper(source, poly)
            longer += len(paper[0]) > len(poly)
            self.assert_let_by(poly, paper)
            for ends in range(5):
                low, high = sorted(Fraction(source.randrange(-60, 61), 7) for end in range(2))
                if low < high and all(self.worth(poly, end) != 0 for end in (low, high)):
                    unlike = set(pieces)
                    expected = sum(piece.below(high) - piece.below(low) for piece in unlike)
                    told = changes(paper[0], fraction_of(low)) - changes(paper[0], fraction_of(high))
                    self.assertEqual(exact(told), exact(expected))
        self.assertGreater(longer, 20)

    def worth(self, poly, at):
        return sum(number * at ** k for k, number in enumerate(poly))


class Wrong(unittest.TestCase):
    def refused(self, word, place, paper, poly=POLY):
        assert_no_paper(self, word, place, lets_signs, poly, paper)

    def test_odd_things(self):
        for thing in ODD_THINGS:
            self.refused("shape", -1, thing)
            self.refused("shape", -1, (thing, ROWS))
            self.refused("shape", -1, (POLYS, thing))
            self.refused("shape", -1, (POLYS, put(ROWS, 1, thing)))

    def test_bent_at_any_depth(self):
        for bent in kind_bends(PAPER):
            self.refused("shape", -1, bent)

    def test_no_poly(self):
        for k in range(3):
            for other in [(), (1, 0), (0,), (2, True), (None,), [1], ((1,),)]:
                self.refused("shape", -1, (put(POLYS, k, other), ROWS))

    def test_no_row(self):
        for k in range(2):
            a, b, q = ROWS[k]
            for other in [
                (0, b, q), (-1, b, q), (a, 0, q), (a, -b, q), (True, b, q), (a, True, q), (a, b, q + (0,)), (a, b, 1),
                (a, b), (a, b, q, q), (a, b, None), (a, b, [0, 1]), [a, b, q], (-GREAT, b, q), ("1", b, q), (a, b, (0,)),
            ]:
                self.refused("shape", -1, (POLYS, put(ROWS, k, other)))

    def test_more_or_fewer(self):
        self.refused("shape", -1, (POLYS, ROWS[:1]))
        self.refused("shape", -1, (POLYS, ROWS + ROWS[1:]))
        self.refused("shape", -1, (POLYS[:2], ROWS))
        self.refused("shape", -1, (POLYS + ((1,),), ROWS))
        self.refused("shape", -1, ((POLY,), ()))
        self.refused("shape", -1, ((POLY,), ROWS[:1]))
        self.refused("shape", -1, ((), ()))
        self.refused("shape", -1, (POLYS,))
        self.refused("shape", -1, PAPER + ((),))
        self.refused("shape", -1, (ROWS, POLYS))

    def test_first(self):
        for other in [(2, 0, -1), (-2, 1), (-2, 0, 2), (-2, 0, 1, 1), (1,)]:
            self.refused("first", 0, (put(POLYS, 0, other), ROWS))
            self.refused("first", 0, (put(put(POLYS, 0, other), 1, (7,)), ROWS))
        self.refused("first", 0, PAPER, (-3, 0, 1))
        self.refused("first", 0, (TWICE_POLYS, TWICE_ROWS), derived(TWICE))
        for other in [(0, -2), (0, 1), (0, 4), (1, 2), (2,), (0, 2, 2)]:
            self.refused("first", 1, (put(POLYS, 1, other), ROWS))
            self.refused("first", 1, (put(POLYS, 1, other), put(ROWS, 0, (1, 1, ()))))
        # Two behind the first one, all rows are right.
        self.refused("first", 1, (((-2, 0, 1), (0, 1), (2,)), ((1, 1, (0, 1)), (2, 1, (0, 1)))))

    def test_rows(self):
        for other in [(1, 4, (0, 1)), (2, 3, (0, 1)), (2, 4, (1, 1)), (2, 4, (0, 2)), (2, 4, ()), (2, 4, (0, 1, 1))]:
            self.refused("row", 0, (POLYS, put(ROWS, 0, other)))
            self.refused("row", 0, (POLYS, (other, (7, 7, ()))))
        for other in [(2, 1, (0, 2)), (1, 1, (0, 1)), (1, 1, (1, 2)), (1, 1, ()), (1, 1, (0, 2, 1)), (1, 1, (2,))]:
            self.refused("row", 1, (POLYS, put(ROWS, 1, other)))
        self.refused("row", 0, (put(POLYS, 2, (-1,)), ROWS))
        self.refused("row", 0, (put(POLYS, 2, (2,)), ROWS))
        # Behind the last poly there is nought, not the first poly or any other one.
        self.refused("row", 1, (POLYS[:2] + ((4,), (1,)), (ROWS[0][:1] + (1, (0, 1)), (1, 1, (0, 2)), (1, 1, (4,)))))
        self.refused("row", 0, (((-2, 0, 1), (0, 2)), ((2, 1, (0, 1)),)))
        self.refused("row", 0, (((1, 0, 1), (0, 2)), ((2, 1, (0, 1)),)), (1, 0, 1))

    def test_the_least_row(self):
        polys = (TWICE, (1, -4, 3), (-1, 1), (1,))
        rows = (TWICE_ROWS[0], (1, 1, (-1, 3)), (1, 1, (-1, 1)))
        self.refused("row", 1, (polys, rows), TWICE)
        self.refused("row", 0, (polys, put(rows, 0, (8, 2, (-2, 3)))), TWICE)
        right = (TWICE, (1, -4, 3), (-1, 1), (-1, 1))
        self.refused("row", 2, (right, (rows[0], (1, 1, (0, 3)), (1, 1, (2,)))), TWICE)
        self.assertIs(lets_signs(TWICE, (right, (rows[0], (1, 1, (0, 3)), (1, 1, (1,))))), True)

    def test_great_things(self):
        q = (1,) * 9000
        self.refused("row", 0, (POLYS, ((2, 4, q), ROWS[1])))
        self.refused("row", 0, (POLYS[:2] + (q,), ((2, 4, q), ROWS[1])))
        self.refused("row", 1, (POLYS, (ROWS[0], (1, 1, q))))

    def test_nothing_is_changed(self):
        assert_unchanged(self, lets_signs, POLY, [list(POLYS), list(ROWS)])
        assert_unchanged(self, lets_signs, POLY, (POLYS, list(ROWS)))
        assert_unchanged(self, lets_signs, POLY, PAPER)


class Changes(unittest.TestCase):
    def assert_changes(self, many, polys, at):
        self.assertEqual(exact(changes(polys, at)), exact(many))

    def test_numbers_alone(self):
        for numbers, many in [
            ((), 0), ((1,), 0), ((-1,), 0), ((0,), 0), ((0, 0, 0), 0), ((1, -1), 1), ((-1, 1), 1), ((1, 1), 0),
            ((-2, -3), 0), ((1, 0, -1), 1), ((1, 0, 1), 0), ((0, 1, 0, 0, -1, 0), 1), ((1, -1, 1, -1), 3),
            ((1, -1, 0, 1), 2), ((0, -5), 0), ((5, 0), 0), ((-1, 0, 0, 2, 3, -4), 2), ((GREAT, -GREAT), 1),
        ]:
            polys = tuple((number,) if number else () for number in numbers)
            self.assert_changes(many, polys, (7, 3))

    def test_at_fractions(self):
        for at, many in [
            ((-9, 1), 2), ((-3, 2), 2), ((-7, 5), 1), ((-1, 10 ** 19), 1), ((0, 1), 1), ((1, 3), 1), ((7, 5), 1),
            ((3, 2), 0), ((10 ** 19, 3), 0),
        ]:
            self.assert_changes(many, POLYS, at)
        # Worths: (x - 1) x at 1/2 is below 0, 2 x - 1 is 0 there.
        self.assert_changes(1, ((0, -1, 1), (-1, 2), (1,)), (1, 2))
        self.assert_changes(0, ((0, -1, 1), (-1, 2)), (1, 2))
        self.assert_changes(0, ((0, -1, 1),), (-5, 3))
        self.assert_changes(1, ((1, 1), (1, 2)), (-2, 3))
        self.assert_changes(0, ((2, 3), (1, 2)), (-2, 3))

    def test_great_numbers(self):
        self.assert_changes(1, ((-GREAT, GREAT - 1), (1,)), (1, 1))
        self.assert_changes(0, ((-GREAT, GREAT + 1), (1,)), (1, 1))
        self.assert_changes(0, ((-GREAT, GREAT), (1,)), (1, 1))

    def test_nothing_is_changed(self):
        assert_unchanged(self, changes, [(0, 1), (1,)], (-1, 2))


if __name__ == "__main__":
    unittest.main()
