import itertools
import random
import unittest

from pairtally.errors import NoPairing
from pairtally.joining import hung
from pairtally.making import fork_web, full_web, line_web, ring_web
from pairtally.numbers import behind, number_of, pairing_at, pairing_by
from pairtally.pairings import pairings, row_of
from pairtally.ways import ways_tree
from pairtally.webs import is_web
from tests.support import (
    ODD_THINGS, all_pairings, assert_refused, assert_unchanged, bare, exact, full, kind_bends, line, ring, some_webs,
)
from tests.test_weights import drawn_weights, weighed


def in_order(web):
    """All pairings by size, then as Python sorts."""
    return sorted(all_pairings(web), key=lambda pairing: (len(pairing), pairing))


class Behind(unittest.TestCase):
    def test_all_pairings(self):
        for web in some_webs(most=7, each=3, seed=371):
            for pairing in all_pairings(web):
                told = behind(web, pairing)
                used = set(itertools.chain(*pairing))
                ties = [tie for tie in web[1] if not pairing or (tie > pairing[-1] and not used & set(tie))]
                self.assertEqual(exact(told), exact((web[0], tuple(ties))))
                self.assertTrue(is_web(told))

    def test_none(self):
        for web in some_webs(each=1, seed=372):
            self.assertEqual(exact(behind(web, ())), exact(web))

    def test_edges(self):
        self.assertEqual(behind(full(4), ((0, 2),)), (4, ((1, 3),)))
        self.assertEqual(behind(full(4), ((1, 3),)), (4, ()))
        self.assertEqual(behind(line(6), ((0, 1), (2, 3))), (6, ((4, 5),)))
        self.assertEqual(behind(line(6), ((2, 3),)), (6, ((4, 5),)))


class Numbers(unittest.TestCase):
    def assert_all(self, web):
        every = in_order(web)
        for number, pairing in enumerate(every):
            self.assertEqual(exact(number_of(web, pairing)), exact(number))
            self.assertEqual(exact(pairing_at(web, number)), exact(pairing))
        for number in (-1, -2, len(every), len(every) + 1, 10 ** 39, -(10 ** 39)):
            assert_refused(self, NoPairing, {}, pairing_at, web, number)

    def test_there_and_back(self):
        for web in some_webs(most=6, each=6, seed=373):
            self.assert_all(web)

    def test_no_places_no_ties(self):
        for n in range(10):
            self.assert_all(bare(n))
            self.assertEqual(exact(number_of(bare(n), ())), "0")
            self.assertEqual(exact(pairing_at(bare(n), 0)), "()")
            assert_refused(self, NoPairing, {}, pairing_at, bare(n), 1)

    def test_some_of_nine_places(self):
        source = random.Random(374)
        for web in [web for web in some_webs(each=3, seed=375) if web[0] > 6]:
            many = sum(row_of(web))
            for number in {0, many - 1, *[source.randrange(many) for again in range(6)]}:
                self.assertEqual(number_of(web, pairing_at(web, number)), number)
            every = in_order(web) if web[0] == 7 else []
            for number in range(0, len(every), 7):
                self.assertEqual(pairing_at(web, number), every[number])

    def test_told_webs_of_more_places(self):
        for web in (line_web(12), ring_web(12), fork_web(12), hung(ring(8)), ways_tree(full(4), 0)):
            row = row_of(web)
            ahead = 0
            for size, many in enumerate(row):
                told = pairings(web, size)
                for at in {0, many // 3, many // 2, many - 1}:
                    self.assertEqual(exact(pairing_at(web, ahead + at)), exact(told[at]))
                    self.assertEqual(exact(number_of(web, told[at])), exact(ahead + at))
                ahead += many
            assert_refused(self, NoPairing, {}, pairing_at, web, ahead)
            assert_refused(self, NoPairing, {}, pairing_at, web, -1)
        self.assert_all(line_web(12))
        many = sum(row_of(full_web(12)))
        self.assertEqual(number_of(full_web(12), pairing_at(full_web(12), many - 1)), many - 1)

    def test_no_pairings(self):
        web = (6, ((0, 1), (1, 2), (2, 3), (4, 5)))
        self.assertEqual(number_of(web, ((0, 1), (2, 3), (4, 5))), sum((1, 4, 4)))
        for thing in [
            ((1, 0),), ((0, 1), (0, 1)), ((0, 1), (1, 2)), ((2, 3), (0, 1)), ((0, 2),), ((3, 4),), ((0, 6),), ((-1, 0),),
            [(0, 1)], ([0, 1],), ((False, 1),), ((0, True),), ((True, 2),), (0, 1), ((0, 1), None), ((0, 1, 2),),
            ((0,),), (((0, 1),),), ((0, 1), (4, 5), (4, 5)), "0-1", ("0-1",), None, True, 0, 1,
        ]:
            assert_refused(self, NoPairing, {}, number_of, web, thing)
        for bent in kind_bends(((0, 1), (2, 3))):
            assert_refused(self, NoPairing, {}, number_of, web, bent)
        for thing in ODD_THINGS:
            if exact(thing) != "()":
                for web in (bare(0), full(3), line(9)):
                    assert_refused(self, NoPairing, {}, number_of, web, thing)
        # A pairing of another web.
        assert_refused(self, NoPairing, {}, number_of, line(4), ((0, 3),))

    def test_nothing_is_changed(self):
        assert_unchanged(self, number_of, ring(5), ((0, 1), (2, 3)))
        assert_unchanged(self, number_of, ring(5), [[0, 1], [2, 3]])
        assert_unchanged(self, pairing_at, ring(5), 7)
        assert_unchanged(self, pairing_by, ring(5), (1, 2, 3, 4, 5), 7)
        assert_unchanged(self, behind, ring(5), ((0, 1),))


class ByWeights(unittest.TestCase):
    def test_first_and_last_of_each(self):
        source = random.Random(376)
        for web in some_webs(most=6, each=3, seed=377):
            weights = drawn_weights(source, web, source.choice((2, 5, 100)))
            heavy = dict(weighed(web, weights))
            ahead = 0
            for pairing in in_order(web):
                for k in {0, heavy[pairing] // 2, heavy[pairing] - 1}:
                    self.assertEqual(exact(pairing_by(web, weights, ahead + k)), exact((pairing, k)))
                ahead += heavy[pairing]
            for number in (-1, ahead, ahead + 1, 10 ** 39, -(10 ** 39)):
                assert_refused(self, NoPairing, {}, pairing_by, web, weights, number)

    def test_each_number(self):
        web, weights = line(5), (3, 1, 2, 4)
        heavy = dict(weighed(web, weights))
        expected = [(pairing, k) for pairing in in_order(web) for k in range(heavy[pairing])]
        for number, told in enumerate(expected):
            self.assertEqual(exact(pairing_by(web, weights, number)), exact(told))
        assert_refused(self, NoPairing, {}, pairing_by, web, weights, len(expected))

    def test_ones(self):
        for web in some_webs(most=6, each=3, seed=378):
            ones = (1,) * len(web[1])
            for number in range(sum(row_of(web))):
                self.assertEqual(exact(pairing_by(web, ones, number)), exact((pairing_at(web, number), 0)))
        self.assertEqual(exact(pairing_by(bare(4), (), 0)), "((), 0)")
        assert_refused(self, NoPairing, {}, pairing_by, bare(4), (), 1)

    def test_told_webs_of_more_places(self):
        web = ring_web(12)
        weights = tuple(range(1, 13))
        heavy = dict(weighed(web, weights))
        every = in_order(web)
        ahead = 0
        for at, pairing in enumerate(every):
            if at % 17 == 0 or at == len(every) - 1:
                self.assertEqual(pairing_by(web, weights, ahead), (pairing, 0))
                self.assertEqual(pairing_by(web, weights, ahead + heavy[pairing] - 1), (pairing, heavy[pairing] - 1))
            ahead += heavy[pairing]


if __name__ == "__main__":
    unittest.main()
