import itertools
import math
import unittest

from pairtally.making import fork_row, fork_web, full_row, full_web, line_row, line_web, ring_row, ring_web
from pairtally.pairings import row_of
from pairtally.rows import is_row
from pairtally.webs import is_web
from tests.support import assert_unchanged, exact, row_gone_through

MAKERS = ((0, full_web, full_row), (0, line_web, line_row), (3, ring_web, ring_row), (4, fork_web, fork_row))


def added_on(row, other, times=1):
    """The row and, one size on, the other so many times."""
    pairs = itertools.zip_longest(row, (0, *other), fillvalue=0)
    return tuple(one + times * more for one, more in pairs)


class Webs(unittest.TestCase):
    def assert_ties(self, web, n, pairs):
        expected = (n, tuple(sorted({(min(pair), max(pair)) for pair in pairs})))
        self.assertEqual(exact(web), exact(expected))
        self.assertTrue(is_web(web))

    def test_each_number_of_places(self):
        for n in range(13):
            self.assert_ties(full_web(n), n, itertools.combinations(range(n), 2))
            self.assert_ties(line_web(n), n, zip(range(n), range(1, n)))
            if n >= 3:
                self.assert_ties(ring_web(n), n, [(k, (k + 1) % n) for k in range(n)])
            if n >= 4:
                self.assert_ties(fork_web(n), n, [(k, k + 1) for k in range(n - 2)] + [(n - 1, 1)])

    def test_least_ones(self):
        for maker in (full_web, line_web):
            self.assertEqual(exact(maker(0)), "(0, ())")
            self.assertEqual(exact(maker(1)), "(1, ())")
            self.assertEqual(exact(maker(2)), "(2, ((0, 1),))")
        self.assertEqual(exact(ring_web(3)), "(3, ((0, 1), (0, 2), (1, 2)))")
        self.assertEqual(exact(fork_web(4)), "(4, ((0, 1), (1, 2), (1, 3)))")
        self.assertEqual(exact(fork_web(6)), "(6, ((0, 1), (1, 2), (1, 5), (2, 3), (3, 4)))")


class Rows(unittest.TestCase):
    def test_against_going_through(self):
        for least, maker, row in MAKERS:
            for n in range(least, 9):
                self.assertEqual(exact(row(n)), exact(row_gone_through(maker(n))))

    def test_against_row_of(self):
        for least, maker, row in MAKERS:
            most = 13 if maker == full_web else 16 if maker == ring_web else 60
            for n in range(least, most + 1):
                self.assertEqual(exact(row(n)), exact(row_of(maker(n))))

    def test_to_sixty_by_leaving_out_a_place(self):
        for n in range(2, 61):
            self.assertEqual(exact(full_row(n)), exact(added_on(full_row(n - 1), full_row(n - 2), n - 1)))
            self.assertEqual(exact(line_row(n)), exact(added_on(line_row(n - 1), line_row(n - 2))))
            if n >= 3:
                self.assertEqual(exact(ring_row(n)), exact(added_on(line_row(n), line_row(n - 2))))
            if n >= 4:
                self.assertEqual(exact(fork_row(n)), exact(added_on(line_row(n - 1), line_row(n - 3))))

    def test_kinds_and_ends(self):
        for least, maker, row in MAKERS:
            for n in range(least, 61):
                self.assertTrue(is_row(row(n)))
        self.assertEqual(full_row(60)[-1], math.prod(range(1, 60, 2)))
        self.assertEqual([full_row(0), full_row(1), line_row(0), line_row(1)], [(1,)] * 4)
        self.assertEqual([ring_row(3), fork_row(4), ring_row(4)], [(1, 3), (1, 3), (1, 4, 2)])
        for least, maker, row in MAKERS:
            assert_unchanged(self, maker, 7)
            assert_unchanged(self, row, 7)


if __name__ == "__main__":
    unittest.main()
