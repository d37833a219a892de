import itertools
import random
import unittest
from fractions import Fraction

from pairtally.polys import is_poly
from pairtally.signed import signed_of
from pairtally.sums import poly_of_sums, sums_of, whole_of
from pairtally.walks import closed_walks
from pairtally.ways import ways_tree
from tests.support import assert_unchanged, bare, exact, full, line, product_of, ring, some_webs, star


def sums_by_table(poly, most):
    """The traces of the powers of a table whose roots are the poly's."""
    many = range(len(poly) - 1)
    table = [[-poly[i] if j == len(poly) - 2 else int(i == j + 1) for j in many] for i in many]
    power = [[int(i == j) for j in many] for i in many]
    told = []
    for k in range(most + 1):
        told.append(sum(power[i][i] for i in many))
        power = [[sum(power[i][k] * table[k][j] for k in many) for j in many] for i in many]
    return tuple(told)


def fractions_of_sums(sums):
    """The numbers of the poly, whole or not, from the last one down."""
    numbers = [Fraction(1)]
    for k in range(1, len(sums)):
        numbers.append(-sum(numbers[i] * sums[k - i] for i in range(k)) / k)
    return numbers[::-1]


def whole_at(web, x):
    """x times the table of places less that of ties: its determinant, by taking rows from one another."""
    ties = set(web[1])
    many = web[0]
    table = [[Fraction(x if i == j else -((min(i, j), max(i, j)) in ties)) for j in range(many)] for i in range(many)]
    worth = Fraction(1)
    for k in range(many):
        at = next((i for i in range(k, many) if table[i][k] != 0), None)
        if at is None:
            return 0
        if at != k:
            table[k], table[at] = table[at], table[k]
            worth = -worth
        worth *= table[k][k]
        for i in range(k + 1, many):
            by = table[i][k] / table[k][k]
            table[i] = [low - by * high for low, high in zip(table[i], table[k])]
    return worth


def shortest_rings(web):
    """(length, how many) of the shortest rings, or None."""
    tied = set(web[1]) | {(j, i) for i, j in web[1]}
    for length in range(3, web[0] + 1):
        found = 0
        for places in itertools.permutations(range(web[0]), length):
            # Each ring once: it begins at its least place and goes on to the lesser neighbour.
            if places[0] == min(places) and places[1] < places[-1]:
                found += all(pair in tied for pair in zip(places, places[1:] + places[:1]))
        if found:
            return length, found
    return None


class Sums(unittest.TestCase):
    def test_by_roots(self):
        for roots in [(), (0,), (1,), (-3,), (0, 0, 0), (2, 2), (1, -1), (5, -2, -2, 0), (1,) * 12, tuple(range(-6, 6))]:
            poly = product_of([(-root, 1) for root in roots])
            for most in (0, 1, 2, 11, 12, 13, 40):
                expected = (len(roots), *[sum(root ** k for root in roots) for k in range(1, most + 1)])
                self.assertEqual(exact(sums_of(poly, most)), exact(expected))

    def test_drawn(self):
        source = random.Random(211)
        for degree in range(13):
            for size in (2, 10 ** 39):
                poly = (*[source.randrange(-size, size) for k in range(degree)], 1)
                expected = sums_by_table(poly, 40)
                for most in (0, 1, degree, 40):
                    self.assertEqual(exact(sums_of(poly, most)), exact(expected[:most + 1]))

    def test_degree_nought(self):
        self.assertEqual(exact(sums_of((1,), 0)), "(0,)")
        self.assertEqual(exact(sums_of((1,), 4)), "(0, 0, 0, 0, 0)")
        self.assertEqual(exact(sums_of((-2, 0, 1), 5)), "(2, 0, 4, 0, 8, 0)")
        self.assertEqual(exact(sums_of((1, 0, 1), 5)), "(2, 0, -2, 0, 2, 0)")


class Back(unittest.TestCase):
    def test_there_and_back(self):
        source = random.Random(212)
        for degree in range(13):
            for size in (2, 10 ** 39):
                poly = (*[source.randrange(-size, size) for k in range(degree)], 1)
                self.assertEqual(exact(poly_of_sums(sums_of(poly, degree))), exact(poly))
        self.assertEqual(exact(poly_of_sums((0,))), "(1,)")
        self.assertEqual(exact(poly_of_sums((1, 7))), "(-7, 1)")
        self.assertEqual(exact(poly_of_sums((2, 0, 0))), "(0, 0, 1)")

    def test_small_ones_whole_or_not(self):
        seen = {True: 0, False: 0}
        for degree in range(5):
            for rest in itertools.product(range(-3, 4), repeat=degree):
                numbers = fractions_of_sums((degree, *rest))
                whole = all(number.denominator == 1 for number in numbers)
                seen[whole] += 1
                told = poly_of_sums((degree, *rest))
                self.assertEqual(exact(told), exact(tuple(map(int, numbers)) if whole else None))
                self.assertTrue(told is None or is_poly(told))
        self.assertGreater(min(seen.values()), 100)

    def test_none(self):
        for sums in [(2, 1, 0), (2, 0, 1), (3, 0, 0, 1), (3, 0, 0, 2), (3, 1, 0, 0), (4, 0, 0, 0, 2), (2, 10 ** 39, 1)]:
            self.assertIsNone(poly_of_sums(sums))


class Whole(unittest.TestCase):
    def test_webs(self):
        for web in some_webs(each=4, seed=213):
            told = whole_of(web)
            self.assertTrue(is_poly(told))
            self.assertEqual([len(told), told[-1]], [web[0] + 1, 1])
            for x in range(-1, web[0]):
                self.assertEqual(sum(number * x ** k for k, number in enumerate(told)), whole_at(web, x))

    def test_sums_are_all_closed_walks(self):
        for web in some_webs(each=3, seed=214):
            totals = [0] * 21
            for place in range(web[0]):
                totals = [one + other for one, other in zip(totals, closed_walks(web, place, 20))]
            self.assertEqual(sums_of(whole_of(web), 20), tuple(totals))

    def test_where_the_signed_row_parts_from_it(self):
        for web in some_webs(most=7, each=6, seed=215):
            whole, signed = whole_of(web), signed_of(web)
            rings = shortest_rings(web)
            if rings is None:
                self.assertEqual(whole, signed)
            else:
                length, many = rings
                at = web[0] - length
                self.assertEqual(whole[at + 1:], signed[at + 1:])
                self.assertEqual(signed[at] - whole[at], 2 * many)

    def test_edges(self):
        self.assertEqual(exact(whole_of(bare(0))), "(1,)")
        self.assertEqual(exact(whole_of(bare(3))), "(0, 0, 0, 1)")
        self.assertEqual(exact(whole_of(ring(3))), "(-2, -3, 0, 1)")
        self.assertEqual(exact(whole_of(ring(4))), "(0, 0, -4, 0, 1)")

    def test_great_webs_without_rings(self):
        for web in (line(40), star(40), ways_tree(full(5), 0)):
            self.assertEqual(whole_of(web), signed_of(web))

    def test_nothing_is_changed(self):
        assert_unchanged(self, whole_of, ring(5))
        assert_unchanged(self, sums_of, (-2, 0, 1), 5)
        assert_unchanged(self, poly_of_sums, (2, 0, 4))


if __name__ == "__main__":
    unittest.main()
