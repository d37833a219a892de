import random
import unittest

from pairtally.factors import common, plain, powers_of, quotient
from pairtally.polys import is_poly, poly_product, times
from tests.support import assert_unchanged, exact

GREAT = 10 ** 39 + 1
# Plain polys, no two of which share a factor, none of which holds one twice.
PRIMES = ((0, 1), (-1, 1), (2, 1), (-3, 2), (1, 0, 1), (-2, 0, 1), (1, 1, 1), (GREAT, 2), (5, 0, 0, 3))


def product(polys):
    total = (1,)
    for poly in polys:
        total = poly_product(total, poly)
    return total


def drawn_powers(source, most):
    """A power, from 0 on, for each of PRIMES, the degree of the product at most so much."""
    powers = [0] * len(PRIMES)
    left = most
    while True:
        k = source.randrange(len(PRIMES))
        left -= len(PRIMES[k]) - 1
        if left < 0:
            return powers
        powers[k] += 1


def powered(powers):
    return product(prime for prime, power in zip(PRIMES, powers) for again in range(power))


class Plain(unittest.TestCase):
    def test_plain(self):
        for poly, expected in [
            ((1,), (1,)), ((-1,), (1,)), ((6,), (1,)), ((-7,), (1,)), ((2, 4), (1, 2)), ((2, -4), (-1, 2)),
            ((-2, -4), (1, 2)), ((3, 4), (3, 4)), ((0, -1), (0, 1)), ((0, 0, 6), (0, 0, 1)), ((6, 0, 9), (2, 0, 3)),
            ((6, 10, 15), (6, 10, 15)), ((6, 10, -15), (-6, -10, 15)), ((GREAT, 2 * GREAT), (1, 2)),
            ((-3, 0, -6, 0, -9), (1, 0, 2, 0, 3)),
        ]:
            self.assertEqual(exact(plain(poly)), exact(expected))
            self.assertEqual(plain(expected), expected)


class Common(unittest.TestCase):
    def test_drawn(self):
        source = random.Random(61)
        for again in range(150):
            one, other = drawn_powers(source, 6), drawn_powers(source, source.randrange(7))
            shared = powered([min(pair) for pair in zip(one, other)])
            left = times(powered(one), source.choice((1, -1, 6, -35, GREAT)))
            right = times(powered(other), source.choice((1, -1, 10, -21, -GREAT)))
            self.assertEqual(exact(common(left, right)), exact(shared))
            self.assertEqual(exact(common(right, left)), exact(shared))

    def test_nought_and_numbers(self):
        self.assertEqual(exact(common((), (4, -2))), exact((-2, 1)))
        self.assertEqual(exact(common((4, -2), ())), exact((-2, 1)))
        self.assertEqual(exact(common((), (-6,))), exact((1,)))
        self.assertEqual(exact(common((4,), (6,))), exact((1,)))
        self.assertEqual(exact(common((4, 8), (6,))), exact((1,)))
        self.assertEqual(exact(common((6,), (4, 8))), exact((1,)))
        self.assertEqual(exact(common((2, 4), (3, 6))), exact((1, 2)))

    def test_twelfth_degree_and_forty_figures(self):
        source = random.Random(62)
        for again in range(10):
            one = tuple(source.randrange(-GREAT, GREAT) for k in range(12)) + (GREAT,)
            other = tuple(source.randrange(-GREAT, GREAT) for k in range(12)) + (GREAT - 2,)
            self.assertEqual(common(one, other), (1,))
            self.assertEqual(common(one, times(one, -7)), plain(one))


class Quotient(unittest.TestCase):
    def test_products(self):
        source = random.Random(63)
        for again in range(150):
            one = times(powered(drawn_powers(source, source.randrange(6))), source.choice((1, -1, 4, GREAT)))
            other = times(powered(drawn_powers(source, source.randrange(6))), source.choice((1, -1, 6, -GREAT)))
            self.assertEqual(exact(quotient(one, poly_product(one, other))), exact(other))

    def test_none(self):
        self.assertIsNone(quotient((1, 1), (1, 0, 1)))
        self.assertIsNone(quotient((1, 1), (1,)))
        self.assertIsNone(quotient((1, 1), (2, 3)))
        self.assertIsNone(quotient((0, 1), (1, 1)))
        self.assertIsNone(quotient((1, 0, 1), (1, 1)))
        # Only a whole number lacks.
        self.assertIsNone(quotient((2, 2), (1, 1)))
        self.assertIsNone(quotient((4,), (4, 8, 2)))
        self.assertIsNone(quotient((2, 4), (1, 4, 4)))
        self.assertIsNone(quotient((2,), (1,)))

    def test_edges(self):
        self.assertEqual(exact(quotient((1, 1), ())), "()")
        self.assertEqual(exact(quotient((7,), ())), "()")
        self.assertEqual(exact(quotient((2,), (4, -8))), exact((2, -4)))
        self.assertEqual(exact(quotient((-1,), (4, -8))), exact((-4, 8)))
        self.assertEqual(exact(quotient((1, 1), (1, 1))), exact((1,)))
        self.assertEqual(exact(quotient((-1, 1), (-1, 0, 0, 1))), exact((1, 1, 1)))
        self.assertEqual(exact(quotient((1, 0, -1), (-1, 0, 0, 0, 1))), exact((-1, 0, -1)))

    def test_small_ones_by_trying(self):
        """Of all small polys, just those that some poly completes have a quotient."""
        numbers = range(-2, 3)
        polys = [p for p in [()] + [(a,) for a in numbers] + [(a, b) for a in numbers for b in numbers] if is_poly(p)]
        for one in polys:
            if one:
                made = {poly_product(one, other): other for other in polys}
                for other in polys:
                    self.assertEqual(exact(quotient(one, other)), exact(made.get(other)))


class Powers(unittest.TestCase):
    def expected(self, powers):
        told = []
        for power in sorted(set(powers) - {0}):
            told.append((product(prime for prime, k in zip(PRIMES, powers) if k == power), power))
        return told

    def test_drawn(self):
        source = random.Random(64)
        for again in range(150):
            powers = drawn_powers(source, source.choice((3, 6, 9, 12)))
            poly = times(powered(powers), source.choice((1, -1, 12, -30, GREAT)))
            self.assertEqual(exact(powers_of(poly)), exact(self.expected(powers)))

    def test_edges(self):
        for number in (1, -1, 6, -GREAT):
            self.assertEqual(exact(powers_of((number,))), "[]")
        self.assertEqual(exact(powers_of((4, -2))), exact([((-2, 1), 1)]))
        self.assertEqual(exact(powers_of((0,) * 12 + (-3,))), exact([((0, 1), 12)]))
        self.assertEqual(exact(powers_of(powered([0, 12]))), exact([((-1, 1), 12)]))
        # The powers 2 and 3 lack below 4; two factors have power 1.
        self.assertEqual(exact(powers_of(times(powered([1, 4, 1]), -2))), exact([((0, 2, 1), 1), ((-1, 1), 4)]))

    def test_the_told_list_is_the_askers_own(self):
        told = powers_of((0, 0, 1, 1))
        kept = list(told)
        told.append(1)
        told[0] = None
        self.assertEqual(powers_of((0, 0, 1, 1)), kept)
        self.assertEqual(powers_of((1,)), [])
        powers_of((1,)).append(3)
        self.assertEqual(powers_of((1,)), [])

    def test_nothing_hangs_on_what_was_asked(self):
        assert_unchanged(self, powers_of, (0, 0, 1, 1))
        assert_unchanged(self, common, (0, 0, 1, 1), (0, 2))
        assert_unchanged(self, quotient, (0, 2), (0, 0, 2, 2))
        assert_unchanged(self, plain, (0, -2))


if __name__ == "__main__":
    unittest.main()
