import random
import unittest
from fractions import Fraction

from pairtally.polys import is_fraction, times
from pairtally.signchecker import changes, lets_signs
from pairtally.signed import signed_of
from pairtally.signs import below, reals, root_at, sign_paper
from tests.support import (
    PIECES, REAL_PIECES, assert_unchanged, drawn_pieces, exact, fraction_of, full, line, product_of, root_piece,
    some_webs, square_piece,
)

GREAT = 10 ** 39 + 1
TINY = Fraction(1, 10 ** 19)
# The roots of 2 and some fractions beside them.
NEAR_ROOT_2 = (root_piece(141421, 100000), square_piece(2), root_piece(141422, 100000))


def drawn_polys(seed, many, degrees, pieces=PIECES):
    """Tuples of a poly and the pieces that it is made of."""
    source = random.Random(seed)
    for again in range(many):
        taken = drawn_pieces(source, source.choice(degrees), pieces)
        yield times(product_of([piece.poly for piece in taken]), source.choice((1, -1, 6, -35))), taken


def fractions_around(pieces):
    """Fractions far out, at simple numbers, and at and beside the roots of pieces of degree one."""
    told = [Fraction(at) for at in (-10 ** 19, -4001, -7, -2, -1, 0, 1, 2, 3, 10 ** 19)]
    told += [Fraction(7, 5), Fraction(71, 50), Fraction(-3, 2), Fraction(-1, 3)]
    for piece in pieces:
        if len(piece.poly) == 2:
            root = Fraction(-piece.poly[0], piece.poly[1])
            told += [root, root - TINY, root + TINY]
    return told


class Paper(unittest.TestCase):
    def assert_paper(self, poly):
        paper = sign_paper(poly)
        self.assertIs(paper.__class__, tuple)
        self.assertIs(lets_signs(poly, paper), True)
        return paper

    def test_drawn(self):
        for poly, pieces in drawn_polys(101, 150, (4, 6, 9, 12)):
            paper = self.assert_paper(poly)
            unlike = set(pieces)
            far = 10 ** 9
            told = changes(paper[0], (-far, 1)) - changes(paper[0], (far, 1))
            self.assertEqual(told, sum(piece.many for piece in unlike))

    def test_each_degree_and_great_numbers(self):
        source = random.Random(102)
        for degree in range(1, 13):
            for again in range(4):
                numbers = [source.randrange(-GREAT, GREAT) for k in range(degree)]
                self.assert_paper((*numbers, source.choice((-1, 1)) * source.randrange(1, GREAT)))
                self.assert_paper((0,) * degree + (source.choice((-GREAT, 1, 7)),))
                self.assert_paper(product_of([(-3, 2)] * degree))
                self.assert_paper((source.choice((-1, 1)),) + (0,) * (degree - 1) + (-2,))

    def test_signed_polys(self):
        for web in some_webs(each=2, seed=103):
            if web[0]:
                self.assert_paper(signed_of(web))
        self.assert_paper(signed_of(line(60)))


class Counts(unittest.TestCase):
    def assert_below(self, many, poly, at):
        self.assertEqual(exact(below(poly, fraction_of(at))), exact(many), (poly, at))

    def test_drawn(self):
        for poly, pieces in drawn_polys(111, 60, (4, 8, 12)):
            self.assertEqual(exact(reals(poly)), exact(sum(piece.many for piece in pieces)), poly)
            for at in fractions_around(pieces):
                self.assert_below(sum(piece.below(at) for piece in pieces), poly, at)

    def test_roots_near_one_another(self):
        poly = product_of([piece.poly for piece in NEAR_ROOT_2 * 2])
        self.assertEqual(reals(poly), 8)
        for at in fractions_around(NEAR_ROOT_2) + [Fraction(1414213562373095048801, 10 ** 21)]:
            self.assert_below(2 * sum(piece.below(at) for piece in NEAR_ROOT_2), poly, at)

    def test_degree_nought_and_no_real_roots(self):
        for number in (1, -1, 7, -GREAT):
            self.assertEqual(exact(reals((number,))), "0")
            for at in ((0, 1), (-5, 2), (10 ** 19, 1)):
                self.assertEqual(exact(below((number,), at)), "0")
        for poly in ((1, 0, 1), (-1, -1, -1), (1, 0, 2, 0, 1), (3, 0, 0, 0, 2), (GREAT, 0, 1)):
            self.assertEqual(exact(reals(poly)), "0")
            for at in ((0, 1), (-5, 2), (10 ** 19, 1)):
                self.assertEqual(exact(below(poly, at)), "0")

    def test_one_root_with_powers(self):
        for power in range(1, 13):
            for number in (1, -1, -GREAT):
                poly = times(product_of([(-3, 2)] * power), number)
                self.assertEqual(reals(poly), power)
                self.assert_below(0, poly, Fraction(3, 2))
                self.assert_below(0, poly, Fraction(3, 2) - TINY)
                self.assert_below(power, poly, Fraction(3, 2) + TINY)

    def test_far_out_and_great_numbers(self):
        self.assertEqual(reals((-GREAT, 1)), 1)
        self.assertEqual(reals((-GREAT, 0, 1)), 2)
        self.assertEqual(reals((GREAT, GREAT, 1)), 2)
        self.assert_below(0, (-GREAT, 1), Fraction(10 ** 20))
        self.assert_below(1, (GREAT, 1), Fraction(-10 ** 20))
        self.assert_below(0, (10 ** 20, 1), Fraction(-10 ** 20))
        self.assert_below(1, (-1, GREAT), Fraction(1, 10 ** 20))
        self.assert_below(0, (-1, GREAT), Fraction(0))

    def test_signed_polys(self):
        for web in some_webs(each=2, seed=112):
            self.assertEqual(reals(signed_of(web)), web[0])

    def test_nothing_is_changed(self):
        for action in (sign_paper, reals):
            assert_unchanged(self, action, (0, -2, 0, 1))
        assert_unchanged(self, below, (0, -2, 0, 1), (0, 1))
        assert_unchanged(self, root_at, (0, -2, 0, 1), 1, (1, 9))


class RootAt(unittest.TestCase):
    def assert_stretch(self, poly, pieces, number, width):
        told = root_at(poly, number, width)
        self.assertIs(told.__class__, tuple)
        self.assertEqual(len(told), 2)
        self.assertTrue(is_fraction(told[0]) and is_fraction(told[1]))
        low, high = (Fraction(*end) for end in told)
        self.assertLess(low, high)
        self.assertLess(high - low, Fraction(*width))
        self.assertLessEqual(sum(piece.below(low) for piece in pieces), number)
        self.assertGreater(sum(piece.below(high) for piece in pieces), number)

    def test_each_number(self):
        widths = ((9, 1), (1, 1), (2, 3), (1, 1000), (1, 10 ** 6))
        for poly, pieces in drawn_polys(121, 40, (4, 8, 12)):
            for number in range(sum(piece.many for piece in pieces)):
                for width in widths:
                    self.assert_stretch(poly, pieces, number, width)

    def test_roots_near_one_another(self):
        poly = product_of([piece.poly for piece in NEAR_ROOT_2 * 2])
        for number in range(8):
            self.assert_stretch(poly, NEAR_ROOT_2 * 2, number, (1, 10 ** 6))

    def test_widths_that_are_just_met(self):
        # The first stretches that come to mind have whole ends: narrower is less than as wide.
        for poly, pieces in drawn_polys(122, 12, (4, 6), REAL_PIECES):
            for wide in range(1, 30):
                self.assert_stretch(poly, pieces, 0, (wide, 1))
                self.assert_stretch(poly, pieces, 0, fraction_of(Fraction(wide, 16)))

    def test_great_numbers(self):
        piece = root_piece(10 ** 15 - 1)
        self.assert_stretch(piece.poly, [piece], 0, (1, 10 ** 6))
        piece = root_piece(-(10 ** 15 - 1))
        self.assert_stretch(times(piece.poly, -1), [piece], 0, (1, 10 ** 6))
        piece = root_piece(1, 10 ** 15 - 1)
        self.assert_stretch(piece.poly, [piece], 0, (1, 10 ** 6))

    def test_signed_polys(self):
        poly = signed_of(full(9))
        for number in range(9):
            low, high = root_at(poly, number, (1, 10 ** 6))
            self.assertLessEqual(below(poly, low), number)
            self.assertGreater(below(poly, high), number)


if __name__ == "__main__":
    unittest.main()
