import itertools
import math
import random
import unittest

from pairtally.joining import joined_web, side_by_side
from pairtally.making import fork_row, full_row, line_row, ring_row
from pairtally.pairings import row_of
from pairtally.rests import joined_row, rest_row, rest_web
from pairtally.rows import is_row, row_product
from pairtally.webs import is_web
from tests.support import assert_unchanged, bare, drawn_tree, exact, full, line, ring, row_gone_through, some_webs, star


def full_number(n, k):
    """Of FULL of n places, at size k."""
    return math.comb(n, 2 * k) * math.prod(range(1, 2 * k, 2)) if 0 <= 2 * k <= n else 0


def summed(many, row):
    """The told sum, size by size, without noughts at the end."""
    told = [sum((-1) ** j * row[j] * full_number(many - 2 * j, k - j) for j in range(min(k, len(row) - 1) + 1))
            for k in range(many // 2 + 1)]
    while told[-1] == 0:
        told.pop()
    return tuple(told)


class Rests(unittest.TestCase):
    def test_webs(self):
        for web in some_webs(each=5, seed=241):
            told = rest_web(web)
            expected = tuple(pair for pair in itertools.combinations(range(web[0]), 2) if pair not in web[1])
            self.assertEqual(exact(told), exact((web[0], expected)))
            self.assertTrue(is_web(told))
            self.assertEqual(exact(rest_web(told)), exact(web))

    def test_rows(self):
        for web in some_webs(each=5, seed=242):
            row, rest = row_of(web), row_of(rest_web(web))
            self.assertEqual(exact(rest_row(web[0], row)), exact(rest))
            self.assertEqual(exact(rest_row(web[0], rest)), exact(row))
        for web in some_webs(most=6, each=5, seed=243):
            self.assertEqual(exact(rest_row(web[0], row_gone_through(web))), exact(row_gone_through(rest_web(web))))

    def test_edges(self):
        self.assertEqual(exact(rest_web(bare(0))), "(0, ())")
        self.assertEqual(rest_web(full(9)), bare(9))
        for many in range(61):
            self.assertEqual(exact(rest_row(many, (1,))), exact(full_row(many)))
            self.assertEqual(exact(rest_row(many, full_row(many))), "(1,)")
        # No nought at the end: the star's middle place has no tie in the rest.
        self.assertEqual(exact(rest_row(4, (1, 3))), "(1, 3)")
        self.assertEqual(exact(rest_row(2, (1, 1))), "(1,)")

    def test_rows_to_sixty(self):
        source = random.Random(244)
        for many in range(4, 61):
            tree = row_of(drawn_tree(source, many))
            for row in (tree, line_row(many), ring_row(many), fork_row(many), (1, many - 1), line_row(many - 1)):
                told = rest_row(many, row)
                self.assertEqual(exact(told), exact(summed(many, row)))
                self.assertTrue(is_row(told))
                self.assertEqual(exact(rest_row(many, told)), exact(row))

    def test_nothing_is_changed(self):
        assert_unchanged(self, rest_web, ring(5))
        assert_unchanged(self, rest_row, 5, (1, 5, 5))
        assert_unchanged(self, joined_row, 5, (1, 5, 5), 2, (1, 1))


class JoinedRows(unittest.TestCase):
    def test_small_webs(self):
        webs = some_webs(most=5, each=2, seed=245)
        for one, other in itertools.product(webs, webs):
            told = joined_row(one[0], row_of(one), other[0], row_of(other))
            self.assertEqual(exact(told), exact(row_of(joined_web(one, other))))

    def test_webs_without_places(self):
        for web in some_webs(each=2, seed=246):
            row = row_of(web)
            self.assertEqual(exact(joined_row(0, (1,), web[0], row)), exact(row))
            self.assertEqual(exact(joined_row(web[0], row, 0, (1,))), exact(row))
        self.assertEqual(exact(joined_row(0, (1,), 0, (1,))), "(1,)")

    def test_sixty_places(self):
        for a in range(0, 31, 5):
            for b in range(0, 31, 3):
                self.assertEqual(joined_row(a, full_row(a), b, full_row(b)), full_row(a + b))
                # Both without ties: of size k, k of each side, in all orders.
                sided = tuple(math.comb(a, k) * math.comb(b, k) * math.factorial(k) for k in range(min(a, b) + 1))
                self.assertEqual(exact(joined_row(a, (1,), b, (1,))), exact(sided))
        one, other = line_row(28), ring_row(32)
        told = joined_row(28, one, 32, other)
        self.assertEqual(told, joined_row(32, other, 28, one))
        self.assertEqual(rest_row(60, told), row_product(rest_row(28, one), rest_row(32, other)))

    def test_the_rest_of_joined_is_side_by_side(self):
        for one, other in ((line(4), star(5)), (bare(3), full(4)), (ring(5), bare(0))):
            self.assertEqual(rest_web(joined_web(one, other)), side_by_side(rest_web(one), rest_web(other)))


if __name__ == "__main__":
    unittest.main()
