import random
import unittest

from pairtally.errors import TooMany
from pairtally.pairings import pairings, row_of
from pairtally.rows import row_on, row_product, row_sum
from pairtally.webs import neighbours, parts, renumbered, web_on, without_places, without_tie
from pairtally.webtexts import read_web, web_text
from tests.support import (
    all_pairings, assert_refused, assert_unchanged, bare, drawn_tree, drawn_web, exact, full, line, ring,
    row_gone_through, some_webs, star,
)


def chosen(n, k):
    """How many ways there are to take k of n."""
    total = 1
    for step in range(k):
        total = total * (n - step) // (step + 1)
    return total


def beside(one, other):
    return one[0] + other[0], one[1] + tuple((i + one[0], j + one[0]) for i, j in other[1])


class Pairings(unittest.TestCase):
    def test_each_size(self):
        for web in some_webs():
            known = all_pairings(web)
            for size in range(web[0] // 2 + 3):
                told = pairings(web, size)
                self.assertEqual(exact(told), exact(sorted(p for p in known if len(p) == size)))

    def test_no_ties_and_far_beyond(self):
        self.assertEqual(pairings(bare(0), 0), [()])
        self.assertEqual(pairings(bare(0), 1), [])
        self.assertEqual(pairings(bare(5), 0), [()])
        self.assertEqual(pairings(line(4), 10 ** 6), [])

    def test_five_thousand_of_size_one(self):
        for made in (star, line):
            self.assertEqual(pairings(made(5001), 1), [(tie,) for tie in made(5001)[1]])
            assert_refused(self, TooMany, {}, pairings, made(5002), 1)

    def test_five_thousand_of_size_two(self):
        """Two stars side by side have as many as the one's ties times the other's."""
        told = pairings(beside(star(51), star(101)), 2)
        self.assertEqual(len(told), 5000)
        self.assertEqual(told, sorted(told))
        self.assertEqual(3 * 1667, 5001)
        assert_refused(self, TooMany, {}, pairings, beside(star(4), star(1668)), 2)
        self.assertEqual(len(pairings(line(102), 2)), 4950)
        assert_refused(self, TooMany, {}, pairings, line(103), 2)

    def test_great_sizes_with_few_pairings(self):
        self.assertEqual(pairings(line(60), 30), [tuple((k, k + 1) for k in range(0, 60, 2))])
        self.assertEqual(len(pairings(line(61), 30)), 31)
        self.assertEqual(pairings(line(60), 31), [])
        ties = (2400, tuple((k, k + 1) for k in range(0, 2400, 2)))
        self.assertEqual(pairings(ties, 1200), [ties[1]])
        sided = (35, tuple((i, j) for i in range(5) for j in range(5, 35)))
        self.assertEqual(pairings(sided, 6), [])
        assert_refused(self, TooMany, {}, pairings, sided, 5)
        assert_refused(self, TooMany, {}, pairings, line(9999), 3)

    def test_a_read_web(self):
        web = read_web(web_text(drawn_web(random.Random(5), 30, 0.08)))
        known = [(a, b) for a in web[1] for b in web[1] if a < b and not set(a) & set(b)]
        self.assertEqual(pairings(web, 2), known)

    def test_the_told_list_is_the_askers_own(self):
        web = ring(6)
        told = pairings(web, 2)
        kept = list(told)
        told.append("more")
        told[0] = None
        self.assertEqual(pairings(web, 2), kept)
        assert_unchanged(self, pairings, web, 3)


class RowOf(unittest.TestCase):
    def test_against_going_through(self):
        for web in some_webs(each=12):
            self.assertEqual(exact(row_of(web)), exact(row_gone_through(web)))

    def test_without_places_and_ties(self):
        for n in (0, 1, 2, 9, 16, 17, 60, 400):
            self.assertEqual(row_of(bare(n)), (1,))

    def test_at_each_tie_place_and_part(self):
        webs = some_webs(seed=9) + [drawn_web(random.Random(n), n, 0.3) for n in (12, 14, 16)]
        for web in webs:
            row = row_of(web)
            for tie in web[1]:
                self.assertEqual(row, row_sum(row_of(without_tie(web, tie)), row_on(row_of(without_places(web, tie)))))
            for place in range(web[0]):
                total = row_of(without_places(web, (place,)))
                for other in neighbours(web, place):
                    total = row_sum(total, row_on(row_of(without_places(web, tuple(sorted((place, other)))))))
                self.assertEqual(row, total)
            product = (1,)
            for part in parts(web):
                product = row_product(product, row_of(web_on(web, part)))
            self.assertEqual(row, product)
            self.assertEqual(row, row_of(renumbered(web, tuple(range(web[0]))[::-1])))

    def test_full_webs(self):
        for n in range(17):
            odd = 1
            expected = []
            for k in range(n // 2 + 1):
                expected.append(chosen(n, 2 * k) * odd)
                odd *= 2 * k + 1
            self.assertEqual(row_of(full(n)), tuple(expected))

    def test_rings_of_sixteen(self):
        expected = [1] + [chosen(16 - k, k) + chosen(15 - k, k - 1) for k in range(1, 9)]
        self.assertEqual(row_of(ring(16)), tuple(expected))
        two = beside(ring(8), full(8))
        self.assertEqual(row_of(two), row_product(row_gone_through(ring(8)), row_gone_through(full(8))))

    def test_ringless(self):
        for n in (17, 18, 99, 399, 400):
            self.assertEqual(row_of(line(n)), tuple(chosen(n - k, k) for k in range(n // 2 + 1)))
            self.assertEqual(row_of(star(n)), (1, n - 1))
        far_centre = (400, tuple((k, 399) for k in range(399)))
        self.assertEqual(row_of(far_centre), (1, 399))

    def test_drawn_trees(self):
        source = random.Random(3)
        for n in (17, 20, 22):
            tree = drawn_tree(source, n)
            self.assertEqual(row_of(tree), row_gone_through(tree))
        for n in (200, 400):
            tree = drawn_tree(source, n)
            row = row_of(tree)
            self.assertEqual(row[:2], (1, n - 1))
            tie = source.choice(tree[1])
            self.assertEqual(row, row_sum(row_of(without_tie(tree, tie)), row_on(row_of(without_places(tree, tie)))))
            numbers = list(range(n))
            source.shuffle(numbers)
            self.assertEqual(row, row_of(renumbered(tree, tuple(numbers))))

    def test_several_ringless_parts(self):
        web = beside(beside(line(9), bare(3)), beside(star(7), drawn_tree(random.Random(1), 9)))
        product = (1,)
        for part in parts(web):
            product = row_product(product, row_gone_through(web_on(web, part)))
        self.assertEqual(row_of(web), product)

    def test_too_many(self):
        for web in [ring(17), full(17), bare(401), line(401), star(401), beside(ring(3), bare(14)), line(9999),
                    beside(bare(14), ring(3)), beside(ring(3), line(300)), ring(400), ring(401), (10 ** 39, ()),
                    beside(ring(16), bare(1)), beside(ring(4), bare(396))]:
            assert_refused(self, TooMany, {}, row_of, web)
        self.assertEqual(row_of(beside(ring(3), bare(13))), (1, 3))

    def test_nothing_hangs_on_what_was_asked(self):
        for web in (full(16), line(40), ring(7)):
            assert_unchanged(self, row_of, web)


if __name__ == "__main__":
    unittest.main()
