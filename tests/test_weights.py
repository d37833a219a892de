import itertools
import math
import random
import unittest
from fractions import Fraction

from pairtally.joining import hung, joined_web, lines_web, side_by_side
from pairtally.making import full_row, full_web, line_row, line_web, ring_row, ring_web
from pairtally.pairings import row_of
from pairtally.polys import is_fraction
from pairtally.rows import row_product, row_sum
from pairtally.sided import sided_row, sided_web
from pairtally.tops import mean
from pairtally.ways import ways_tree
from pairtally.webs import is_pairing, without_places
from pairtally.weights import bare_share, is_weights, share, weight_of, weighted_row
from tests.support import (
    ODD_THINGS, all_pairings, assert_truth, assert_unchanged, bare, exact, fraction_of, full, kind_bends, line, ring,
    some_webs, star,
)


def drawn_weights(source, web, most=100):
    return tuple(source.randint(1, most) for tie in web[1])


def weighed(web, weights):
    """A list of (pairing, weight), all of them, by going through."""
    heavy = dict(zip(web[1], weights))
    return [(pairing, math.prod(heavy[tie] for tie in pairing)) for pairing in all_pairings(web)]


def weighted_through(web, weights):
    sums = {}
    for pairing, weight in weighed(web, weights):
        sums[len(pairing)] = sums.get(len(pairing), 0) + weight
    return tuple(sums[size] for size in range(len(sums)))


def some_weighted(each=4, most=9, seed=321):
    source = random.Random(seed)
    for web in some_webs(most=most, each=each, seed=seed):
        yield web, (1,) * len(web[1])
        yield web, drawn_weights(source, web, source.choice((2, 10, 100)))


class Kinds(unittest.TestCase):
    def test_weights(self):
        for web, weights in some_weighted(seed=322):
            assert_truth(self, True, is_weights(web, weights), weights)
            assert_truth(self, False, is_weights(web, weights + (1,)), weights)
            assert_truth(self, False, is_weights(web, list(weights)), weights)
            if weights:
                assert_truth(self, False, is_weights(web, weights[:-1]), weights)
                for wrong in (0, -1, True, False, "1", None, [1], (1,), -(10 ** 30)):
                    assert_truth(self, False, is_weights(web, weights[:-1] + (wrong,)), wrong)
                    assert_truth(self, False, is_weights(web, (wrong,) + weights[1:]), wrong)

    def test_great_ones(self):
        for number in (101, 10 ** 29, 10 ** 30 - 1, 10 ** 40 - 1, 10 ** 400):
            assert_truth(self, True, is_weights(line(3), (number, 1)), number)
            assert_truth(self, False, is_weights(line(3), (number, -number)), number)

    def test_bent(self):
        for bent in kind_bends((1, 2, 3)):
            assert_truth(self, False, is_weights(line(4), bent), bent)

    def test_odd_things(self):
        for web in (bare(0), bare(5), (10 ** 39, ())):
            for thing in ODD_THINGS:
                assert_truth(self, exact(thing) == "()", is_weights(web, thing), thing)
        for thing in ODD_THINGS:
            assert_truth(self, exact(thing) == "(1,)", is_weights(line(2), thing), thing)


class WeightedRows(unittest.TestCase):
    def test_weight_of(self):
        for web, weights in some_weighted(each=2, most=7, seed=323):
            for pairing, weight in weighed(web, weights):
                self.assertEqual(exact(weight_of(web, weights, pairing)), exact(weight))
            self.assertEqual(exact(weight_of(web, weights, ())), "1")

    def test_ones(self):
        for web in some_webs(each=8, seed=324):
            self.assertEqual(exact(weighted_row(web, (1,) * len(web[1]))), exact(row_of(web)))

    def test_against_going_through(self):
        for web, weights in some_weighted(each=6, seed=325):
            self.assertEqual(exact(weighted_row(web, weights)), exact(weighted_through(web, weights)))

    def test_edges(self):
        self.assertEqual(exact(weighted_row(bare(0), ())), "(1,)")
        self.assertEqual(exact(weighted_row(bare(9), ())), "(1,)")
        self.assertEqual(exact(weighted_row(line(2), (100,))), "(1, 100)")
        self.assertEqual(exact(weighted_row(ring(4), (2, 3, 5, 7))), exact((1, 17, 2 * 7 + 3 * 5)))

    def test_one_more(self):
        for web, weights in some_weighted(each=3, most=7, seed=326):
            row = weighted_row(web, weights)
            heavy = dict(zip(web[1], weights))
            for k, tie in enumerate(web[1]):
                more = weights[:k] + (weights[k] + 1,) + weights[k + 1:]
                kept = tuple(heavy[other] for other in web[1] if not set(tie) & set(other))
                without = weighted_row(without_places(web, tie), kept)
                self.assertEqual(weighted_row(web, more), row_sum(row, (0, *without)))

    def test_told_webs_of_more_places(self):
        for web, row in [
            (line_web(12), line_row(12)), (ring_web(12), ring_row(12)), (full_web(12), full_row(12)),
            (sided_web(5, 7), sided_row(5, 7)), (side_by_side(ring_web(12), full_web(9)), None),
            (ways_tree(full(5), 0), None), (hung(ring(7)), None), (joined_web(ring(6), line(6)), None),
            (lines_web(full(5)), None),
        ]:
            if row is None:
                row = row_product(ring_row(12), full_row(9)) if web[0] == 21 else row_of(web)
            self.assertEqual(exact(weighted_row(web, (1,) * len(web[1]))), exact(row))


class Shares(unittest.TestCase):
    def test_against_going_through(self):
        for web, weights in some_weighted(each=3, most=7, seed=327):
            every = weighed(web, weights)
            whole = sum(weight for pairing, weight in every)
            for tie in web[1]:
                holding = sum(weight for pairing, weight in every if tie in pairing)
                self.assertEqual(exact(share(web, weights, tie)), exact(fraction_of(Fraction(holding, whole))))
            for place in range(web[0]):
                free = sum(weight for pairing, weight in every if place not in itertools.chain(*pairing))
                self.assertEqual(exact(bare_share(web, weights, place)), exact(fraction_of(Fraction(free, whole))))

    def test_sums(self):
        for web, weights in some_weighted(each=2, seed=328):
            shares = {tie: Fraction(*share(web, weights, tie)) for tie in web[1]}
            self.assertEqual(fraction_of(Fraction(sum(shares.values()))), mean(weighted_row(web, weights)))
            for place in range(web[0]):
                told = bare_share(web, weights, place)
                self.assertTrue(is_fraction(told))
                self.assertEqual(Fraction(*told) + sum(shares[tie] for tie in web[1] if place in tie), 1)

    def test_edges(self):
        self.assertEqual(exact(bare_share(bare(1), (), 0)), "(1, 1)")
        self.assertEqual(exact(bare_share((3, ((0, 1),)), (4,), 2)), "(1, 1)")
        self.assertEqual(exact(bare_share((3, ((0, 1),)), (4,), 1)), "(1, 5)")
        self.assertEqual(exact(share(line(2), (1,), (0, 1))), "(1, 2)")
        self.assertEqual(exact(share(line(2), (99,), (0, 1))), "(99, 100)")
        self.assertEqual(exact(share(star(5), (1, 2, 3, 4), (0, 3))), "(3, 11)")
        self.assertEqual(exact(share(line(4), (1, 1, 1), (0, 1))), "(2, 5)")

    def test_nothing_is_changed(self):
        web, weights = ring(5), (1, 2, 3, 4, 5)
        self.assertTrue(is_pairing(web, ((0, 1), (2, 3))))
        assert_unchanged(self, is_weights, web, [1, 2, 3, 4, 5])
        assert_unchanged(self, weight_of, web, weights, ((0, 1), (2, 3)))
        assert_unchanged(self, weighted_row, web, weights)
        assert_unchanged(self, share, web, weights, (0, 4))
        assert_unchanged(self, bare_share, web, weights, 3)


if __name__ == "__main__":
    unittest.main()
