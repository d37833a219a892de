import itertools
import math
import random
import unittest

from pairtally.joining import (
    apart_sets, divided, hung, hung_row, joined_web, lines_web, side_by_side, with_tie,
)
from pairtally.making import full_row, line_row
from pairtally.pairings import pairings, row_of
from pairtally.rows import is_row, row_on, row_product, row_sum
from pairtally.webs import is_web, without_places, without_tie
from tests.support import (
    assert_unchanged, bare, drawn_tree, drawn_web, exact, full, line, ring, row_gone_through, some_webs, star,
)


class Joined(unittest.TestCase):
    def assert_web(self, web, many, pairs):
        expected = (many, tuple(sorted((min(pair), max(pair)) for pair in pairs)))
        self.assertEqual(exact(web), exact(expected))
        self.assertTrue(is_web(web))

    def test_side_by_side_and_joined(self):
        webs = some_webs(most=4, each=2, seed=221)
        for one, other in itertools.product(webs, webs):
            many = one[0] + other[0]
            behind = [(i + one[0], j + one[0]) for i, j in other[1]]
            beside = side_by_side(one, other)
            self.assert_web(beside, many, [*one[1], *behind])
            across = itertools.product(range(one[0]), range(one[0], many))
            self.assert_web(joined_web(one, other), many, [*one[1], *behind, *across])
            self.assertEqual(row_of(beside), row_product(row_of(one), row_of(other)))

    def test_edges(self):
        self.assertEqual(exact(side_by_side(bare(0), bare(0))), "(0, ())")
        self.assertEqual(exact(joined_web(bare(0), bare(0))), "(0, ())")
        self.assertEqual(side_by_side(bare(0), ring(4)), ring(4))
        self.assertEqual(side_by_side(ring(4), bare(0)), ring(4))
        self.assertEqual(joined_web(bare(0), ring(4)), ring(4))
        self.assertEqual(joined_web(ring(4), bare(0)), ring(4))
        self.assertEqual(joined_web(bare(1), bare(4)), star(5))
        self.assertEqual(joined_web(full(4), full(5)), full(9))
        self.assertEqual(side_by_side(line(2), line(2)), (4, ((0, 1), (2, 3))))

    def test_great_webs(self):
        source = random.Random(222)
        one, other = drawn_tree(source, 100), drawn_tree(source, 150)
        self.assertEqual(row_of(side_by_side(one, other)), row_product(row_of(one), row_of(other)))
        again = side_by_side(side_by_side(one, other), one)
        self.assertEqual(row_of(again), row_product(row_of(side_by_side(one, other)), row_of(one)))

    def test_with_tie(self):
        for web in some_webs(most=7, each=3, seed=223):
            for i, j in itertools.combinations(range(web[0]), 2):
                if (i, j) not in web[1]:
                    told = with_tie(web, i, j)
                    self.assert_web(told, web[0], [*web[1], (i, j)])
                    self.assertEqual(row_of(told), row_sum(row_of(web), row_on(row_of(without_places(web, (i, j))))))
        self.assertEqual(exact(with_tie(bare(2), 0, 1)), "(2, ((0, 1),))")

    def test_divided(self):
        for web in some_webs(most=7, each=3, seed=224):
            for i, j in web[1]:
                told = divided(web, (i, j))
                kept = [tie for tie in web[1] if tie != (i, j)]
                self.assert_web(told, web[0] + 1, [*kept, (i, web[0]), (j, web[0])])
                one, other = row_of(without_places(web, (i,))), row_of(without_places(web, (j,)))
                row = row_sum(row_of(without_tie(web, (i, j))), row_on(row_sum(one, other)))
                self.assertEqual(row_of(told), row)
        self.assertEqual(exact(divided(line(2), (0, 1))), "(3, ((0, 2), (1, 2)))")

    def test_hung(self):
        for web in some_webs(most=7, each=4, seed=225):
            many = web[0]
            told = hung(web)
            self.assert_web(told, 2 * many, [*web[1], *[(k, many + k) for k in range(many)]])
            self.assertEqual(exact(hung_row(many, row_of(web))), exact(row_of(told)))
        self.assertEqual(exact(hung(bare(0))), "(0, ())")
        self.assertEqual(hung(bare(3)), (6, ((0, 3), (1, 4), (2, 5))))

    def test_hung_rows_to_sixty(self):
        source = random.Random(226)
        for many in range(61):
            tree = drawn_tree(source, many) if many else bare(0)
            told = hung_row(many, row_of(tree))
            self.assertTrue(is_row(told))
            self.assertEqual(exact(told), exact(row_of(hung(tree))))
            for row in ((1,), line_row(many), full_row(many)):
                expected = [sum(number * math.comb(many - 2 * j, k - j) for j, number in enumerate(row) if j <= k)
                            for k in range(many + 1)]
                self.assertEqual(exact(hung_row(many, row)), exact(tuple(expected)))

    def test_nothing_is_changed(self):
        for action in (side_by_side, joined_web):
            assert_unchanged(self, action, ring(4), line(3))
        for action in (hung, lines_web):
            assert_unchanged(self, action, ring(4))
        assert_unchanged(self, with_tie, ring(4), 0, 2)
        assert_unchanged(self, divided, ring(4), (0, 3))
        assert_unchanged(self, apart_sets, ring(4), 2)
        assert_unchanged(self, hung_row, 4, (1, 4, 2))


class Lines(unittest.TestCase):
    def test_lines(self):
        for web in some_webs(most=7, each=5, seed=231):
            ties = web[1]
            pairs = [(a, b) for a, b in itertools.combinations(range(len(ties)), 2) if set(ties[a]) & set(ties[b])]
            self.assertEqual(exact(lines_web(web)), exact((len(ties), tuple(pairs))))
            self.assertTrue(is_web(lines_web(web)))

    def test_edges(self):
        self.assertEqual(exact(lines_web(bare(0))), "(0, ())")
        self.assertEqual(exact(lines_web(bare(7))), "(0, ())")
        self.assertEqual(exact(lines_web(line(2))), "(1, ())")
        self.assertEqual(lines_web(line(7)), line(6))
        self.assertEqual(lines_web(star(7)), full(6))
        self.assertEqual(lines_web(ring(3)), ring(3))


class ApartSets(unittest.TestCase):
    def gone_through(self, web, size):
        return [chosen for chosen in itertools.combinations(range(web[0]), size)
                if not any(pair in web[1] for pair in itertools.combinations(chosen, 2))]

    def test_small_webs(self):
        for web in some_webs(most=7, each=5, seed=232):
            for size in range(web[0] + 3):
                self.assertEqual(exact(apart_sets(web, size)), exact(self.gone_through(web, size)))

    def test_to_twelve_places(self):
        source = random.Random(233)
        for n in (10, 11, 12):
            for web in (bare(n), full(n), ring(n), star(n), drawn_web(source, n, 0.3), drawn_web(source, n, 0.1)):
                for size in range(n + 2):
                    self.assertEqual(exact(apart_sets(web, size)), exact(self.gone_through(web, size)))

    def test_edges(self):
        self.assertEqual(exact(apart_sets(bare(0), 0)), "[()]")
        self.assertEqual(exact(apart_sets(bare(0), 1)), "[]")
        self.assertEqual(exact(apart_sets(bare(0), 10 ** 9)), "[]")
        self.assertEqual(exact(apart_sets(full(5), 0)), "[()]")
        self.assertEqual(exact(apart_sets(full(5), 2)), "[]")
        self.assertEqual(exact(apart_sets(bare(3), 3)), "[(0, 1, 2)]")
        self.assertEqual(exact(apart_sets(bare(12), 13)), "[]")
        self.assertEqual(exact(apart_sets(ring(4), 10 ** 9)), "[]")

    def test_the_told_list_is_the_askers_own(self):
        for size in (0, 1, 2, 5):
            kept = self.gone_through(ring(4), size)
            told = apart_sets(ring(4), size)
            told.append(None)
            told[0] = (9,)
            self.assertEqual(apart_sets(ring(4), size), kept)

    def test_pairings_are_the_apart_sets_of_the_lines(self):
        for web in some_webs(each=4, seed=234):
            lines = lines_web(web)
            row = row_gone_through(web) if len(web[1]) < 16 else row_of(web)
            for size in range(web[0] // 2 + 2):
                told = [tuple(web[1][k] for k in chosen) for chosen in apart_sets(lines, size)]
                self.assertEqual(told, pairings(web, size))
                self.assertEqual(len(told), row[size] if size < len(row) else 0)
            many = len(web[1])
            self.assertEqual(len(apart_sets(lines, 2)), many * (many - 1) // 2 - len(lines[1]))


if __name__ == "__main__":
    unittest.main()
