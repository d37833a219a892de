import unittest

from pairtally.errors import TooMany
from pairtally.signed import signed_of
from pairtally.sums import sums_of
from pairtally.walks import closed_walks, folding, folding_by_rows, folds
from pairtally.webs import without_places
from tests.support import (
    assert_refused, assert_truth, assert_unchanged, bare, exact, full, line, product_of, ring, some_webs, star,
)


def walks_from(web, place, length):
    """All walks of the length that begin at the place."""
    ties = set(web[1]) | {(j, i) for i, j in web[1]}
    walks = [(place,)]
    for step in range(length):
        walks = [walk + (other,) for walk in walks for other in range(web[0]) if (walk[-1], other) in ties]
    return walks


def comes_back(walk, gone=frozenset()):
    """Whether it goes out to places not gone, folds there without its own place, and comes back, again and again."""
    first = walk[0]
    at = 0
    while at < len(walk) - 1:
        if first not in walk[at + 1:]:
            return False
        back = walk.index(first, at + 1)
        there = walk[at + 1:back]
        if there[0] in gone or there[0] != there[-1] or not comes_back(there, gone | {first}):
            return False
        at = back
    return True


def matrix_counts(web, place, most):
    """Closed walks by the powers of the table of ties."""
    many = range(web[0])
    ties = set(web[1]) | {(j, i) for i, j in web[1]}
    table = [[int((i, j) in ties) for j in many] for i in many]
    power = [[int(i == j) for j in many] for i in many]
    told = []
    for length in range(most + 1):
        told.append(power[place][place])
        power = [[sum(power[i][k] * table[k][j] for k in many) for j in many] for i in many]
    return tuple(told)


class Closed(unittest.TestCase):
    def test_by_going_through(self):
        for web in some_webs(most=4, each=5, seed=201):
            for place in range(web[0]):
                told = closed_walks(web, place, 7)
                counts = [len([walk for walk in walks_from(web, place, k) if walk[-1] == place]) for k in range(8)]
                self.assertEqual(exact(told), exact(tuple(counts)))

    def test_to_twenty(self):
        for web in some_webs(each=2, seed=202):
            for place in range(web[0]):
                expected = matrix_counts(web, place, 20)
                for most in (0, 1, 2, 19, 20):
                    self.assertEqual(exact(closed_walks(web, place, most)), exact(expected[:most + 1]))

    def test_places_without_ties(self):
        self.assertEqual(exact(closed_walks(bare(1), 0, 0)), "(1,)")
        self.assertEqual(exact(closed_walks(bare(9), 8, 20)), exact((1,) + (0,) * 20))
        self.assertEqual(exact(closed_walks((3, ((0, 1),)), 2, 3)), exact((1, 0, 0, 0)))

    def test_great_webs(self):
        self.assertEqual(closed_walks(star(9999), 0, 6), (1, 0, 9998, 0, 9998 ** 2, 0, 9998 ** 3))
        self.assertEqual(closed_walks(line(9999), 5000, 6), (1, 0, 2, 0, 6, 0, 20))


class Folds(unittest.TestCase):
    def test_told_ones(self):
        for web, walk, expected in [
            (bare(1), (0,), True), (line(2), (0, 1), False), (line(2), (0, 1, 0), True), (line(2), (1, 0, 1, 0, 1), True),
            (line(3), (0, 1, 2, 1, 0), True), (line(3), (1, 0, 1, 2, 1), True), (line(3), (0, 1, 2, 1), False),
            (line(3), (0, 1, 2), False), (ring(3), (0, 1, 2, 0), False), (ring(3), (0, 1, 2, 1, 0), True),
            (ring(3), (0, 1, 2, 0, 2, 1, 0), False), (ring(4), (0, 1, 2, 3, 0), False), (ring(3), (0, 1, 0, 2, 0), True),
            # A ring that is gone round below the first place, and one that is gone round and back.
            (full(4), (0, 1, 2, 3, 1, 0), False), (full(4), (0, 1, 2, 3, 2, 1, 0), True),
            (full(4), (0, 1, 2, 1, 3, 1, 0), True), (full(4), (0, 1, 2, 3, 1, 3, 2, 1, 0), False),
            (full(4), (0, 1, 2, 0, 1, 0), False),
        ]:
            assert_truth(self, expected, folds(web, walk), (web, walk))

    def test_all_walks(self):
        seen = {True: 0, False: 0}
        for web in (line(4), ring(3), ring(4), full(4), star(4), (5, ((0, 1), (0, 2), (1, 2), (2, 3), (3, 4)))):
            for place in range(web[0]):
                for length in range(8 if web != full(4) else 7):
                    for walk in walks_from(web, place, length):
                        expected = comes_back(walk)
                        seen[expected] += 1
                        assert_truth(self, expected, folds(web, walk), (web, walk))
        self.assertGreater(min(seen.values()), 500)


class Folding(unittest.TestCase):
    def test_by_going_through(self):
        for web in some_webs(most=4, each=5, seed=203) + [ring(5)]:
            for place in range(web[0]):
                counts = tuple(sum(map(comes_back, walks_from(web, place, k))) for k in range(8))
                for most in range(8):
                    self.assertEqual(exact(folding(web, place, most)), exact(counts[:most + 1]))
                    self.assertEqual(exact(folding_by_rows(web, place, most)), exact(counts[:most + 1]))

    def test_both_are_alike(self):
        for web in some_webs(most=6, each=4, seed=204) + [line(9), ring(9), star(9), line(400)]:
            for place in range(min(web[0], 9)):
                for most in (0, 1, 13, 20):
                    told = folding(web, place, most)
                    self.assertEqual(len(told), most + 1)
                    self.assertEqual(exact(told), exact(folding_by_rows(web, place, most)))

    def test_the_quotient(self):
        """By rows, of webs whose ways are too many: times the signed row they make that without the place."""
        for web in (full(7), full(9), full(16)):
            told = folding_by_rows(web, 3, 20)
            made = product_of([signed_of(web)[::-1], told])[:21]
            upper = signed_of(without_places(web, (3,)))[::-1]
            self.assertEqual(made, upper + (0,) * (21 - len(upper)))

    def test_all_places_together(self):
        for web in some_webs(each=3, seed=205):
            totals = [0] * 21
            for place in range(web[0]):
                totals = [one + other for one, other in zip(totals, folding_by_rows(web, place, 20))]
            self.assertEqual(tuple(totals), sums_of(signed_of(web), 20))

    def test_edges(self):
        for action in (folding, folding_by_rows):
            self.assertEqual(exact(action(bare(1), 0, 0)), "(1,)")
            self.assertEqual(exact(action(bare(5), 3, 20)), exact((1,) + (0,) * 20))
            self.assertEqual(exact(action(ring(3), 0, 3)), "(1, 0, 2, 0)")

    def test_too_many(self):
        for web, place in ((full(7), 0), (full(9), 4), (line(401), 0), (star(401), 3), (ring(201), 0)):
            for most in (0, 1, 20):
                assert_refused(self, TooMany, {}, folding, web, place, most)
        self.assertEqual(folding(line(400), 0, 4), (1, 0, 1, 0, 2))
        self.assertEqual(folding(star(400), 0, 4), (1, 0, 399, 0, 399 ** 2))

    def test_nothing_is_changed(self):
        for action in (closed_walks, folding, folding_by_rows):
            assert_unchanged(self, action, ring(5), 1, 9)
        assert_unchanged(self, folds, ring(5), (0, 1, 0))


if __name__ == "__main__":
    unittest.main()
