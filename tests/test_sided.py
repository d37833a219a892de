import itertools
import math
import random
import unittest

from pairtally.pairings import row_of
from pairtally.rows import is_row
from pairtally.sided import sided_rest, sided_rest_row, sided_row, sided_web
from pairtally.webs import is_web
from tests.support import assert_unchanged, bare, exact, row_gone_through


def every_tie(a, b):
    return tuple((i, a + j) for i in range(a) for j in range(b))


def full_number(a, b, k):
    """Of full sided of a and b, at size k."""
    return math.comb(a, k) * math.comb(b, k) * math.factorial(k) if min(a, b, k) >= 0 else 0


def summed(a, b, row):
    """The told sum, size by size, without noughts at the end."""
    told = [sum((-1) ** j * row[j] * full_number(a - j, b - j, k - j) for j in range(min(k, len(row) - 1) + 1))
            for k in range(min(a, b) + 1)]
    while told[-1] == 0:
        told.pop()
    return tuple(told)


def drawn_sided(source, a, b, chance):
    return a + b, tuple(tie for tie in every_tie(a, b) if source.random() < chance)


def some_sided(most, seed):
    """(a, b, web): all ties, none, one, all but one, some."""
    source = random.Random(seed)
    for a, b in itertools.product(range(most + 1), repeat=2):
        if a + b <= 9:
            ties = every_tie(a, b)
            chosen = [(a + b, ties), bare(a + b), (a + b, ties[:1]), (a + b, ties[1:])]
            chosen += [drawn_sided(source, a, b, chance) for chance in (0.2, 0.5, 0.8)]
            for web in dict.fromkeys(chosen):
                yield a, b, web


class FullSided(unittest.TestCase):
    def test_webs(self):
        self.assertEqual(exact(sided_web(0, 0)), "(0, ())")
        self.assertEqual(exact(sided_web(3, 0)), "(3, ())")
        self.assertEqual(exact(sided_web(0, 3)), "(3, ())")
        self.assertEqual(exact(sided_web(1, 2)), "(3, ((0, 1), (0, 2)))")
        self.assertEqual(exact(sided_web(2, 1)), "(3, ((0, 2), (1, 2)))")
        for a, b in itertools.product(range(31), repeat=2):
            told = sided_web(a, b)
            self.assertEqual(told, (a + b, every_tie(a, b)))
            self.assertTrue(is_web(told))

    def test_rows(self):
        for a, b in itertools.product(range(6), repeat=2):
            if a + b <= 9:
                self.assertEqual(exact(sided_row(a, b)), exact(row_gone_through(sided_web(a, b))))
        for a, b in itertools.product(range(31), repeat=2):
            told = sided_row(a, b)
            self.assertEqual(exact(told), exact(tuple(full_number(a, b, k) for k in range(min(a, b) + 1))))
            self.assertTrue(is_row(told))
        for a in range(31):
            self.assertEqual(exact(sided_row(a, 0)), "(1,)")
            self.assertEqual(exact(sided_row(0, a)), "(1,)")


class SidedRests(unittest.TestCase):
    def test_webs(self):
        for a, b, web in some_sided(6, 301):
            told = sided_rest(a, b, web)
            self.assertEqual(exact(told), exact((a + b, tuple(tie for tie in every_tie(a, b) if tie not in web[1]))))
            self.assertTrue(is_web(told))
            self.assertEqual(exact(sided_rest(a, b, told)), exact(web))
        self.assertEqual(sided_rest(30, 30, bare(60)), sided_web(30, 30))
        self.assertEqual(sided_rest(30, 30, sided_web(30, 30)), bare(60))

    def test_the_sides_count(self):
        """One web may be sided in two ways, and has other rests then."""
        web = (4, ((0, 3),))
        self.assertEqual(sided_rest(1, 3, web), (4, ((0, 1), (0, 2))))
        self.assertEqual(sided_rest(2, 2, web), (4, ((0, 2), (1, 2), (1, 3))))
        self.assertEqual(sided_rest_row(1, 3, (1, 1)), (1, 2))
        self.assertEqual(sided_rest_row(2, 2, (1, 1)), (1, 3, 1))

    def test_rows(self):
        for a, b, web in some_sided(6, 302):
            row, rest = row_gone_through(web), row_gone_through(sided_rest(a, b, web))
            self.assertEqual(exact(sided_rest_row(a, b, row)), exact(rest))
            self.assertEqual(exact(sided_rest_row(a, b, rest)), exact(row))

    def test_no_nought_at_the_end(self):
        self.assertEqual(exact(sided_rest_row(2, 2, (1, 2))), "(1, 2)")
        self.assertEqual(exact(sided_rest_row(2, 2, (1, 4, 2))), "(1,)")
        self.assertEqual(exact(sided_rest_row(1, 1, (1, 1))), "(1,)")
        self.assertEqual(exact(sided_rest_row(0, 0, (1,))), "(1,)")

    def test_rows_to_thirty(self):
        source = random.Random(303)
        for a, b in itertools.product(range(31), repeat=2):
            self.assertEqual(exact(sided_rest_row(a, b, (1,))), exact(sided_row(a, b)))
            self.assertEqual(exact(sided_rest_row(a, b, sided_row(a, b))), "(1,)")
            ties = tuple((k, a + k) for k in range(min(a, b)) if source.random() < 0.7)
            row = tuple(math.comb(len(ties), k) for k in range(len(ties) + 1))
            told = sided_rest_row(a, b, row)
            self.assertEqual(exact(told), exact(summed(a, b, row)))
            self.assertTrue(is_row(told))
            self.assertEqual(exact(sided_rest_row(a, b, told)), exact(row))
            if a + b <= 12:
                self.assertEqual(told, row_of(sided_rest(a, b, (a + b, ties))))

    def test_nothing_is_changed(self):
        web = sided_web(2, 3)
        assert_unchanged(self, sided_rest, 2, 3, web)
        assert_unchanged(self, sided_rest_row, 2, 3, (1, 6, 6))


if __name__ == "__main__":
    unittest.main()
