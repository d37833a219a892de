import itertools
import random
import unittest

from pairtally.errors import TooMany
from pairtally.polys import poly_product
from pairtally.factors import quotient
from pairtally.signed import signed_of
from pairtally.webs import is_web, parts, without_places
from pairtally.webtexts import read_web, web_text
from pairtally.ways import ways_from, ways_tree
from tests.support import assert_refused, assert_unchanged, bare, drawn_tree, exact, full, line, ring, some_webs, star


def ways_gone_through(web, place):
    """Every order of some of the other places, where each is tied to the one ahead."""
    ties = set(web[1]) | {(j, i) for i, j in web[1]}
    others = [other for other in range(web[0]) if other != place]
    told = []
    for many in range(web[0]):
        for rest in itertools.permutations(others, many):
            way = (place, *rest)
            if all(pair in ties for pair in zip(way, way[1:])):
                told.append(way)
    return sorted(told, key=lambda way: (len(way), way))


def tree_of(ways):
    ties = [(ways.index(way[:-1]), k) for k, way in enumerate(ways) if len(way) > 1]
    return len(ways), tuple(sorted(ties))


def read_again(web):
    return read_web(web_text(web))


class Ways(unittest.TestCase):
    def test_small_webs(self):
        for web in some_webs(most=6, each=6, seed=151):
            for place in range(web[0]):
                expected = ways_gone_through(web, place)
                self.assertEqual(exact(ways_from(web, place)), exact(expected))
                self.assertEqual(exact(ways_tree(web, place)), exact(tree_of(expected)))

    def test_edges(self):
        self.assertEqual(exact(ways_from(bare(1), 0)), "[(0,)]")
        self.assertEqual(exact(ways_tree(bare(1), 0)), "(1, ())")
        self.assertEqual(exact(ways_from(bare(9), 5)), "[(5,)]")
        self.assertEqual(exact(ways_tree(bare(9), 5)), "(1, ())")
        self.assertEqual(ways_from(ring(3), 1), [(1,), (1, 0), (1, 2), (1, 0, 2), (1, 2, 0)])
        self.assertEqual(ways_tree(ring(3), 1), (5, ((0, 1), (0, 2), (1, 3), (2, 4))))
        fork = (5, ((0, 1), (1, 2), (1, 4), (2, 3)))
        self.assertEqual(ways_from(fork, 0), [(0,), (0, 1), (0, 1, 2), (0, 1, 4), (0, 1, 2, 3)])
        self.assertEqual(ways_from(line(4), 2), [(2,), (2, 1), (2, 3), (2, 1, 0)])

    def test_of_a_tree_the_tree_is_as_great(self):
        source = random.Random(152)
        for n in (1, 2, 9, 50, 400):
            web = read_again(drawn_tree(source, n))
            self.assertEqual(ways_tree(web, source.randrange(n))[0], n)

    def test_more_than_400(self):
        for web, place, many in [
            (line(400), 0, 400), (line(400), 200, 400), (line(401), 0, None), (line(401), 200, None),
            (star(400), 0, 400), (star(400), 7, 400), (star(401), 0, None), (star(401), 7, None),
            (ring(200), 3, 399), (ring(201), 3, None), (full(6), 2, 326), (full(7), 2, None), (full(9), 8, None),
            (full(400), 0, None), (bare(400), 399, 1), (ring(400), 0, None), (star(9999), 5, None), (line(9999), 9, None),
        ]:
            web = read_again(web)
            if many is None:
                assert_refused(self, TooMany, {}, ways_from, web, place)
                assert_refused(self, TooMany, {}, ways_tree, web, place)
            else:
                self.assertEqual(len(ways_from(web, place)), many)
                self.assertEqual(ways_tree(web, place)[0], many)

    def test_just_400_with_a_ring(self):
        # The ring's 399 ways from place 3 go on to the place that hangs at 3 only from the first one.
        web = (201, tuple(sorted(ring(200)[1] + ((3, 200),))))
        self.assertEqual(len(ways_from(web, 3)), 400)
        self.assertEqual(ways_tree(web, 3)[0], 400)
        more = (202, tuple(sorted(web[1] + ((3, 201),))))
        assert_refused(self, TooMany, {}, ways_from, more, 3)
        assert_refused(self, TooMany, {}, ways_tree, more, 3)

    def test_the_tree_is_one_part_without_rings(self):
        for web in some_webs(most=5, each=4, seed=153):
            for place in range(web[0]):
                tree = ways_tree(web, place)
                self.assertTrue(is_web(tree))
                self.assertEqual(len(tree[1]), tree[0] - 1)
                self.assertEqual(len(parts(tree)), 1)

    def test_the_tree_tells_the_same_quotient(self):
        for web in some_webs(most=6, each=3, seed=154):
            for place in range(web[0]):
                tree = ways_tree(web, place)
                whole, less = signed_of(web), signed_of(without_places(web, (place,)))
                tall, lower = signed_of(tree), signed_of(without_places(tree, (0,)))
                self.assertEqual(poly_product(less, tall), poly_product(whole, lower))
                if len(parts(web)) == 1:
                    self.assertIsNotNone(quotient(whole, tall))

    def test_the_told_list_is_the_askers_own(self):
        kept = ways_gone_through(ring(4), 0)
        told = ways_from(ring(4), 0)
        told.append((9,))
        told[0] = None
        self.assertEqual(ways_from(ring(4), 0), kept)
        self.assertEqual(ways_tree(ring(4), 0), tree_of(kept))

    def test_nothing_is_changed(self):
        for action in (ways_from, ways_tree):
            assert_unchanged(self, action, full(4), 1)
            assert_unchanged(self, action, full(9), 1)


if __name__ == "__main__":
    unittest.main()
