import random
import unittest
from fractions import Fraction

from pairtally.polys import times
from pairtally.rootchecker import lets_roots
from pairtally.roots import root_paper
from pairtally.signed import signed_of
from tests.support import (
    REAL_PIECES, assert_unchanged, drawn_pieces, exact, line, product_of, root_piece, some_webs, square_piece,
)

WIDTHS = ((9, 1), (1, 1), (3, 7), (1, 1000), (1, 10 ** 6))


class RootPaper(unittest.TestCase):
    def assert_paper(self, poly, width):
        paper = root_paper(poly, width)
        self.assertIs(paper.__class__, tuple)
        self.assertIs(lets_roots(poly, paper), True)
        for factor, power, stretches in paper:
            for low, high in stretches:
                self.assertLess(Fraction(*high) - Fraction(*low), Fraction(*width))
        return paper

    def test_degree_nought(self):
        for number in (1, -1, 10 ** 14, -7):
            for width in WIDTHS:
                self.assertEqual(exact(root_paper((number,), width)), "()")

    def test_drawn(self):
        source = random.Random(131)
        for again in range(60):
            pieces = drawn_pieces(source, source.choice((4, 8, 12)), REAL_PIECES)
            poly = times(product_of([piece.poly for piece in pieces]), source.choice((1, -1, 6, -35)))
            paper = self.assert_paper(poly, source.choice(WIDTHS))
            for factor, power, stretches in paper:
                for low, high in stretches:
                    inside = [piece for piece in pieces if piece.below(Fraction(*high)) > piece.below(Fraction(*low))]
                    self.assertEqual([inside.count(inside[0]), len(inside)], [power, power])

    def test_none_where_some_root_is_not_real(self):
        source = random.Random(132)
        seen = {True: 0, False: 0}
        for again in range(60):
            pieces = drawn_pieces(source, source.choice((4, 8)))
            poly = product_of([piece.poly for piece in pieces])
            real = all(piece.many for piece in pieces)
            seen[real] += 1
            self.assertIs(root_paper(poly, (1, 10)) is not None, real)
        self.assertGreater(min(seen.values()), 9)
        for poly in ((1, 0, 1), (1, 0, 2, 0, 1), (1, 1, 1, 1), (0, 0, 5, 0, 1), (-1, 0, 0, 1)):
            self.assertIsNone(root_paper(poly, (1, 10)))

    def test_roots_at_middles(self):
        """At 0 and at halves and quarters, where stretches are divided."""
        roots = [Fraction(k, 4) for k in range(-6, 6)]
        poly = product_of([(-root.numerator, root.denominator) for root in roots])
        for width in WIDTHS:
            self.assert_paper(poly, width)
        for power in range(1, 13):
            self.assert_paper((0,) * power + (3,), (1, 10 ** 6))
            self.assert_paper(product_of([(0, 1), (-1, 1)] * (power // 2) + [(1, 2)]), (1, 2))

    def test_roots_near_one_another(self):
        beside = (root_piece(14142135, 10 ** 7), square_piece(2), root_piece(14142136, 10 ** 7))
        for width in WIDTHS:
            self.assert_paper(product_of([piece.poly for piece in beside]), width)
            self.assert_paper(product_of([beside[0].poly, beside[1].poly, beside[1].poly, beside[2].poly]), width)
        close = product_of([(-(10 ** 7 + k), 10 ** 7) for k in (0, 1)])
        self.assert_paper(close, (9, 1))

    def test_widths_that_are_just_met(self):
        for poly in ((-1, 1), (0, 1), (-2, 0, 1), (-3, 0, 1)):
            for wide in range(1, 40):
                self.assert_paper(poly, (wide, 1))
                width = Fraction(wide, 32)
                self.assert_paper(poly, (width.numerator, width.denominator))

    def test_great_numbers(self):
        great = 10 ** 15 - 1
        for poly in ((-great, 1), (great, 1), (-1, great), (-great, 0, 1), (1, -great, 1), (-great, 3, great)):
            self.assert_paper(poly, (1, 10 ** 6))

    def test_signed_polys(self):
        for web in some_webs(each=3, seed=133):
            self.assert_paper(signed_of(web), (1, 100))
        self.assert_paper(signed_of(line(30)), (1, 100))

    def test_nothing_is_changed(self):
        assert_unchanged(self, root_paper, (0, 0, -2, 0, 1), (1, 9))

if __name__ == "__main__":
    unittest.main()
