import random
import unittest
from fractions import Fraction

from pairtally.polys import derived, is_fraction, is_poly, poly_product, poly_sum, sign_at, times, worth
from tests.support import ODD_THINGS, assert_truth, assert_unchanged, exact, kind_bends

GREAT = 10 ** 39 + 1


def some_polys():
    source = random.Random(51)
    polys = [(), (1,), (-1,), (5,), (0, 1), (0, 0, -3), (1, 1), (1, -1), (-1, 1), (2, 0, 4), (GREAT, -GREAT)]
    for length in (2, 3, 5, 9, 13):
        for size in (3, GREAT):
            polys.append(tuple(source.randrange(-size, size) for k in range(length - 1)) + (source.choice((-2, 1)),))
    return polys


def some_fractions():
    return [(0, 1), (1, 1), (-1, 1), (1, 2), (-7, 3), (10 ** 20 - 1, 10 ** 19), (1, 10 ** 19), (-5, 1), (4, 9)]


def trimmed(numbers):
    numbers = list(numbers)
    while numbers and numbers[-1] == 0:
        numbers.pop()
    return tuple(numbers)


def at(poly, k):
    return poly[k] if 0 <= k < len(poly) else 0


class Kinds(unittest.TestCase):
    def test_polys(self):
        for poly in some_polys():
            assert_truth(self, True, is_poly(poly), poly)
            for bent in kind_bends(poly):
                assert_truth(self, False, is_poly(bent), bent)

    def test_no_polys(self):
        for thing in [(0,), (1, 0), (0, 0), (GREAT, 0), (True,), (1, True), (False, 1), (1, False), (1, None), (1, "1"),
                      [1], [], (1, (1,)), ([],), "", "1", None, 1, 0, True]:
            assert_truth(self, False, is_poly(thing), thing)
        for thing in ODD_THINGS:
            expected = exact(thing) in ("()", "(1,)", "(0, 1)", "(1, 2, 3)")
            assert_truth(self, expected, is_poly(thing), thing)

    def test_fractions(self):
        for fraction in some_fractions() + [(GREAT, GREAT - 1), (-GREAT, GREAT + 1)]:
            assert_truth(self, True, is_fraction(fraction), fraction)
            for bent in kind_bends(fraction):
                assert_truth(self, False, is_fraction(bent), bent)

    def test_no_fractions(self):
        for thing in [(0, 2), (0, 0), (1, 0), (1, -1), (-1, -2), (2, 2), (2, 4), (-3, 6), (GREAT, GREAT), (0, GREAT),
                      (1,), (1, 2, 3), (), [1, 2], (1, True), (True, 1), (False, 1), ("1", 2), (1, "2"), (1, None), 1,
                      None, ((1, 2),), ((1,), 2), (0, -1)]:
            assert_truth(self, False, is_fraction(thing), thing)
        for thing in ODD_THINGS:
            assert_truth(self, exact(thing) == "(0, 1)", is_fraction(thing), thing)

    def test_all_small_fractions(self):
        for top in range(-12, 13):
            for bottom in range(-3, 13):
                expected = bottom >= 1 and Fraction(top, bottom).denominator == bottom
                assert_truth(self, expected, is_fraction((top, bottom)), (top, bottom))


class Made(unittest.TestCase):
    def test_sum(self):
        for one in some_polys():
            for other in some_polys():
                expected = trimmed(at(one, k) + at(other, k) for k in range(max(len(one), len(other))))
                self.assertEqual(exact(poly_sum(one, other)), exact(expected))
            self.assertEqual(exact(poly_sum(one, times(one, -1))), "()")
            self.assertEqual(poly_sum(one, ()), one)
        self.assertEqual(poly_sum((1, 2, 3), (1, -2, -3)), (2,))
        self.assertEqual(poly_sum((1, 2, 3), (0, 0, -3)), (1, 2))

    def test_product(self):
        for one in some_polys():
            for other in some_polys():
                length = len(one) + len(other)
                expected = trimmed(sum(at(one, i) * at(other, k - i) for i in range(k + 1)) for k in range(length))
                self.assertEqual(exact(poly_product(one, other)), exact(expected))
            self.assertEqual(exact(poly_product(one, ())), "()")
            self.assertEqual(poly_product((1,), one), one)
        self.assertEqual(poly_product((1, 1), (1, -1)), (1, 0, -1))

    def test_times(self):
        for poly in some_polys():
            self.assertEqual(exact(times(poly, 0)), "()")
            for number in (1, -1, 7, -GREAT):
                self.assertEqual(exact(times(poly, number)), exact(tuple(number * part for part in poly)))

    def test_derived(self):
        for poly in some_polys():
            expected = tuple((k + 1) * poly[k + 1] for k in range(len(poly) - 1))
            self.assertEqual(exact(derived(poly)), exact(expected))
        self.assertEqual(exact(derived((5,))), "()")
        self.assertEqual(exact(derived(())), "()")
        self.assertEqual(derived((7, 5, -4, 2)), (5, -8, 6))

    def test_worth(self):
        for poly in some_polys():
            for top, bottom in some_fractions():
                point = Fraction(top, bottom)
                value = sum((number * point ** k for k, number in enumerate(poly)), Fraction(0))
                expected = (value.numerator, value.denominator)
                self.assertEqual(exact(worth(poly, (top, bottom))), exact(expected))
                self.assertEqual(exact(sign_at(poly, (top, bottom))), exact(int(value > 0) - int(value < 0)))
        self.assertEqual(worth((), (3, 7)), (0, 1))
        self.assertEqual(worth((4, 3), (0, 1)), (4, 1))
        self.assertEqual(worth((-4, 0, 1), (-2, 1)), (0, 1))
        self.assertEqual(worth((0, 2), (1, 2)), (1, 1))
        self.assertEqual(worth((1, 0, 1), (-1, 2)), (5, 4))

    def test_nothing_is_changed(self):
        assert_unchanged(self, is_poly, [1, [2]])
        assert_unchanged(self, is_poly, (1, [2]))
        assert_unchanged(self, is_fraction, [1, 2])
        assert_unchanged(self, is_fraction, ([1], 2))
        assert_unchanged(self, poly_sum, (1, 2), (3, -2))
        assert_unchanged(self, worth, (1, 2), (3, 2))


if __name__ == "__main__":
    unittest.main()
