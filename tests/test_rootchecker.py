import itertools
import random
import unittest
from fractions import Fraction

from pairtally.errors import NoPaper
from pairtally.polys import poly_product, times
from pairtally.rootchecker import lets_roots
from tests.support import ODD_THINGS, assert_no_paper, assert_unchanged, kind_bends

GREAT = 10 ** 39 + 1
X_LESS_1 = (-1, 1)
X_AND_2 = (2, 1)
ROOT_2 = (-2, 0, 1)


def product(*polys):
    total = (1,)
    for poly in polys:
        total = poly_product(total, poly)
    return total


POLY = times(product(X_LESS_1, X_LESS_1, X_AND_2, ROOT_2), -6)
AT_1 = ((1, 2), (5, 4))
AT_MINUS_2 = ((-5, 2), (-3, 2))
AT_MINUS_ROOT = ((-3, 2), (-1, 2))
AT_ROOT = ((5, 4), (3, 2))
ONE = (X_LESS_1, 2, (AT_1,))
TWO = (X_AND_2, 1, (AT_MINUS_2,))
THREE = (ROOT_2, 1, (AT_MINUS_ROOT, AT_ROOT))
# Stretches of other entries end just where those of THREE begin.
PAPER = (ONE, TWO, THREE)


class Right(unittest.TestCase):
    def assert_let_by(self, poly, paper):
        self.assertIs(lets_roots(poly, paper), True)

    def test_entries_in_any_order(self):
        for paper in itertools.permutations(PAPER):
            self.assert_let_by(POLY, paper)

    def test_whole_numbers_do_not_count(self):
        for number in (1, -1, 6, -35, GREAT):
            self.assert_let_by(times(POLY, number), PAPER)
            for k, (factor, power, stretches) in enumerate(PAPER):
                entry = (times(factor, number), power, stretches)
                self.assert_let_by(POLY, PAPER[:k] + (entry,) + PAPER[k + 1:])

    def test_several_pieces_of_one_power(self):
        both = (product(X_AND_2, ROOT_2), 1, (AT_MINUS_2, AT_MINUS_ROOT, AT_ROOT))
        self.assert_let_by(POLY, (ONE, both))
        self.assert_let_by(POLY, (both, ONE))

    def test_degree_nought(self):
        for number in (1, -1, 7, GREAT):
            self.assert_let_by((number,), ())

    def test_great_powers_and_numbers(self):
        self.assert_let_by((0,) * 12 + (1,), (((0, 5), 12, (((-1, 1), (1, 1)),)),))
        root = (-GREAT, GREAT + 1)
        self.assert_let_by(product(root, root), ((root, 2, (((10 ** 20 - 1, 10 ** 20), (1, 1)),)),))


class Wrong(unittest.TestCase):
    def refused(self, word, place, paper, poly=POLY):
        assert_no_paper(self, word, place, lets_roots, poly, paper)

    def test_no_tuple(self):
        for thing in ODD_THINGS:
            if isinstance(thing, tuple) and thing:
                self.refused("shape", 0, thing)
            elif not isinstance(thing, tuple):
                self.refused("shape", -1, thing)
                self.refused("shape", -1, thing, (1,))
        self.refused("shape", -1, list(PAPER))

    def test_bent_at_any_depth(self):
        for k, entry in enumerate(PAPER):
            for bent in kind_bends(entry):
                self.refused("shape", k, PAPER[:k] + (bent,) + PAPER[k + 1:])

    def test_wrong_entries(self):
        low, high = AT_1
        for factor in [(), (5,), (1, 0), (-1, 1, 0), (-1, True), (-2, 0, 1), 1]:
            self.refused("shape", 1, (TWO, (factor, 2, (AT_1,)), None))
        # A factor of degree 0 is none, though it has as many stretches as its degree.
        for factor in [(5,), (1,), ()]:
            self.refused("shape", 0, ((factor, 1, ()),) + PAPER)
        for power in [0, -1, 6, 7, GREAT, True, "1", None, (1,)]:
            self.refused("shape", 1, (TWO, (X_LESS_1, power, (AT_1,)), None))
        for stretches in [
            (), (AT_1, AT_ROOT), AT_1, [AT_1], None, 1, ((low, high, high),), ((low,),), ((high, low),),
            ((low, low),), (((2, 4), high),), ((low, (10, 8)),), (((1, 0), high),), ((low, (5, 0)),), ((low, (5, -4)),),
            (((0, 2), high),), ((low, (True, 1)),), ((low, (1, True)),), ((False, high),), ((low, 2),), ((0, 1),),
            ([low, high],), ((low, [5, 4]),), ((low, (5, 4, 3)),), ((low, (5,)),), (None,), ((),),
        ]:
            self.refused("shape", 1, (TWO, (X_LESS_1, 2, stretches), None))
        for entry in [ONE + (None,), ONE[:2], (2, X_LESS_1, (AT_1,)), ()]:
            self.refused("shape", 1, (TWO, entry, None))

    def test_powers_of_a_poly_of_degree_nought(self):
        self.refused("shape", 0, ((X_LESS_1, 1, (AT_1,)),), (3,))
        self.refused("shape", 0, ((X_LESS_1, 2, (AT_1,)),), X_LESS_1)
        # As great as the degree a power may be, by kind.
        self.refused("product", -1, ((X_LESS_1, 5, (AT_1,)),))

    def test_product(self):
        self.refused("product", -1, ())
        self.refused("product", -1, (), X_LESS_1)
        self.refused("product", -1, PAPER[:2])
        self.refused("product", -1, PAPER + (TWO,))
        self.refused("product", -1, ((X_LESS_1, 1, (AT_1,)), TWO, THREE))
        self.refused("product", -1, (ONE, (X_AND_2, 2, (AT_MINUS_2,)), THREE))
        self.refused("product", -1, (((-1, 2), 2, (AT_1,)), TWO, THREE))
        self.refused("product", -1, (ONE, ((-2, 1), 1, (AT_MINUS_2,)), THREE))
        self.refused("product", -1, (ONE, TWO, ((-3, 0, 1), 1, THREE[2])))
        # Of the right degree, and like the poly in its first and its last number.
        self.refused("product", -1, (((-1, 3, 1), 1, (AT_1, AT_ROOT)),), (-1, 2, 1))
        great = ((1,) * 1000, 5, tuple(((2 * k, 1), (2 * k + 1, 1)) for k in range(999)))
        self.refused("product", -1, (great,))

    def test_order(self):
        self.refused("order", 2, (ONE, TWO, (ROOT_2, 1, (AT_ROOT, AT_MINUS_ROOT))))
        self.refused("order", 0, ((ROOT_2, 1, (AT_MINUS_ROOT, AT_MINUS_ROOT)), TWO, ONE))
        # Each has a root, and the worths change signs, but they overlap.
        self.refused("order", 1, (ONE, (ROOT_2, 1, (((-3, 2), (0, 1)), ((-1, 1), (3, 2)))), TWO))
        # One's high may be the low behind it.
        self.assertIs(lets_roots(ROOT_2, ((ROOT_2, 1, (((-3, 2), (0, 1)), ((0, 1), (3, 2)))),)), True)

    def test_signs(self):
        for other in [
            ((2, 1), (3, 1)), ((-1, 1), (1, 2)), ((1, 2), (1, 1)), ((1, 1), (5, 4)), ((-9, 1), (-8, 1)),
        ]:
            self.refused("signs", 0, ((X_LESS_1, 2, (other,)), TWO, THREE))
            self.refused("signs", 2, (THREE, TWO, (X_LESS_1, 2, (other,))))
        self.refused("signs", 2, (ONE, TWO, (ROOT_2, 1, (((-2, 1), (2, 1)), ((3, 1), (4, 1))))))
        self.refused("signs", 2, (ONE, TWO, (ROOT_2, 1, (AT_MINUS_ROOT, ((3, 2), (2, 1))))))
        self.refused("signs", 2, (ONE, TWO, (ROOT_2, 1, (((-3, 1), (-2, 1)), AT_ROOT))))
        self.refused("signs", 0, (((1, 0, 1), 1, (((-1, 1), (0, 1)), ((0, 1), (1, 1)))),), (1, 0, 1))

    def test_apart(self):
        wide = (X_LESS_1, 2, (((1, 2), (4, 3)),))
        holding = (X_LESS_1, 2, (((0, 1), (3, 1)),))
        for entry in (wide, holding):
            self.refused("apart", 2, (entry, TWO, THREE))
            self.refused("apart", 1, (entry, THREE, TWO))
            self.refused("apart", 1, (THREE, entry, TWO))
            self.refused("apart", 2, (THREE, TWO, entry))
            self.refused("apart", 2, (TWO, THREE, entry))
        lower = (X_AND_2, 1, (((-5, 2), (-4, 3)),))
        self.refused("apart", 2, (ONE, lower, THREE))
        self.refused("apart", 1, (lower, THREE, holding))
        # The same root told by two entries: their stretches always meet.
        self.refused("apart", 1, ((X_LESS_1, 1, (AT_1,)), (X_LESS_1, 1, (AT_1,)), TWO, THREE))

    def test_order_of_the_words(self):
        disorder = (ROOT_2, 1, (AT_ROOT, AT_MINUS_ROOT))
        no_sign = (X_AND_2, 1, (((5, 1), (6, 1)),))
        holding = (X_LESS_1, 2, (((0, 1), (3, 1)),))
        self.refused("shape", 3, (disorder, no_sign, holding, None))
        self.refused("product", -1, (disorder, no_sign))
        self.refused("signs", 0, (no_sign, disorder, holding))
        self.refused("order", 0, (disorder, no_sign, holding))
        self.refused("signs", 2, (THREE, holding, no_sign))
        self.refused("order", 1, (holding, disorder, TWO))
        both = (ROOT_2, 1, (((3, 1), (4, 1)), ((1, 1), (5, 4))))
        self.refused("order", 2, (ONE, TWO, both))

    def test_nothing_is_changed(self):
        assert_unchanged(self, lets_roots, POLY, [list(ONE), [TWO]])
        assert_unchanged(self, lets_roots, POLY, (ONE, (X_AND_2, 1, [AT_MINUS_2])))
        assert_unchanged(self, lets_roots, POLY, PAPER)
        assert_unchanged(self, lets_roots, POLY, PAPER[:2])


class Soundness(unittest.TestCase):
    def test_what_is_let_by_is_so(self):
        """Drawn stretches for drawn roots are let by only where each holds just its own root."""
        source = random.Random(81)
        let_by = 0
        for again in range(4000):
            roots = source.sample(range(-4, 5), source.randrange(1, 4))
            powers = [source.randrange(1, 3) for root in roots]
            poly = product(*[(-root, 1) for root, power in zip(roots, powers) for once in range(power)])
            paper = tuple(((-root, 1), power, (self.drawn(source, root),)) for root, power in zip(roots, powers))
            try:
                lets_roots(poly, paper)
            except NoPaper:
                continue
            let_by += 1
            for root, (factor, power, stretches) in zip(roots, paper):
                (low, high), = stretches
                inside = [other for other in roots if Fraction(*low) < other < Fraction(*high)]
                self.assertEqual(inside, [root])
        self.assertGreater(let_by, 300)

    def drawn(self, source, root):
        """A stretch around, or near, the root."""
        ends = sorted(Fraction(4 * root + source.randrange(-6, 7), 4) for end in range(2))
        if ends[0] == ends[1]:
            ends[1] += 1
        return tuple((end.numerator, end.denominator) for end in ends)


if __name__ == "__main__":
    unittest.main()
