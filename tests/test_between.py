import itertools
import random
import unittest
from fractions import Fraction

from pairtally.between import lies_between, reach_of
from pairtally.polys import times
from pairtally.signed import signed_of
from pairtally.signs import below
from pairtally.webs import without_places
from pairtally.ways import ways_tree
from tests.support import (
    assert_truth, assert_unchanged, bare, drawn_tree, exact, fraction_of, full, line, product_of, ring, some_webs, star,
)

GREAT = 10 ** 25 + 1


def poly_with(roots):
    return product_of([(-Fraction(root).numerator, Fraction(root).denominator) for root in roots])


def lie_between(ones, others):
    return all(ones[k] <= other <= ones[k + 1] for k, other in enumerate(others))


class Between(unittest.TestCase):
    def assert_between(self, expected, one, other):
        for number, by in ((1, 1), (-1, 1), (1, -1), (-6, -35), (GREAT, -2)):
            assert_truth(self, expected, lies_between(times(one, number), times(other, by)), (one, other))

    def test_all_small_roots(self):
        for many in range(1, 5):
            for ones in itertools.combinations_with_replacement(range(4), many):
                for others in itertools.combinations_with_replacement(range(-1, 5), many - 1):
                    expected = lie_between(ones, others)
                    assert_truth(self, expected, lies_between(poly_with(ones), poly_with(others)), (ones, others))

    def test_drawn(self):
        source = random.Random(141)
        seen = {True: 0, False: 0}
        for again in range(300):
            ones = sorted(Fraction(source.randrange(-9, 10), source.choice((1, 1, 2, 3))) for k in range(12))
            others = [source.choice((low, high, (low + high) / 2, (2 * low + high) / 3))
                      for low, high in zip(ones, ones[1:])]
            if source.random() < 0.5:
                k = source.randrange(11)
                others[k] += Fraction(source.choice((-1, 1)), source.choice((1, 2, 5, 10 ** 6)))
                others = sorted(others)
            expected = lie_between(ones, others)
            seen[expected] += 1
            self.assert_between(expected, poly_with(ones), poly_with(others))
        self.assertGreater(min(seen.values()), 50)

    def test_degrees_one_and_nought(self):
        for one in ((0, 1), (-3, 1), (5, -2), (GREAT, GREAT + 1)):
            for other in ((1,), (-1,), (7,), (-GREAT,)):
                assert_truth(self, True, lies_between(one, other), (one, other))

    def test_irrational_roots(self):
        for one, other, expected in [
            ((-2, 0, 1), (0, 1), True), ((-2, 0, 1), (-7, 5), True), ((-2, 0, 1), (-71, 50), False),
            ((-2, 0, 1), (71, 50), False), ((-2, 0, 1), (7, 5), True),
            ((0, -2, 0, 1), (-2, 0, 1), True), ((0, -2, 0, 1), (-3, 0, 1), False), ((0, -2, 0, 1), (0, -1, 1), True),
            ((0, -2, 0, 1), (0, 0, 1), True), ((0, -2, 0, 1), (2, -3, 1), False),
            ((4, 0, -4, 0, 1), product_of([(-2, 0, 1), (0, 1)]), True),
            ((4, 0, -4, 0, 1), product_of([(-2, 0, 1), (-7, 5)]), True),
            ((4, 0, -4, 0, 1), product_of([(-2, 0, 1), (-71, 50)]), False),
            ((4, 0, -4, 0, 1), product_of([(0, 1), (-1, 1), (1, 1)]), False),
        ]:
            self.assert_between(expected, one, other)

    def test_the_same_roots_several_times(self):
        self.assert_between(True, poly_with((2,) * 12), poly_with((2,) * 11))
        self.assert_between(False, poly_with((2,) * 12), poly_with((2,) * 10 + (3,)))
        self.assert_between(False, poly_with((2,) * 12), poly_with((2,) * 10 + (Fraction(2 * GREAT - 1, GREAT),)))
        self.assert_between(True, poly_with((1, 1, 1, 4, 4)), poly_with((1, 1, 3, 4)))
        self.assert_between(False, poly_with((1, 1, 1, 4, 4)), poly_with((1, 1, 1, 1)))
        self.assert_between(True, poly_with((1, 1, 1, 4, 4)), poly_with((1, 1, 1, 4)))
        self.assert_between(False, poly_with((1, 1, 1, 4, 4)), poly_with((1, 3, 4, 4)))
        self.assert_between(False, poly_with((1, 1, 4)), poly_with((2, 3)))
        self.assert_between(False, poly_with((1, 4, 4)), poly_with((2, 3)))

    def test_webs_with_a_place_left_out(self):
        for web in some_webs(each=4, seed=142):
            for place in range(web[0]):
                one, other = signed_of(web), signed_of(without_places(web, (place,)))
                assert_truth(self, True, lies_between(one, other), (web, place))

    def test_great_webs(self):
        source = random.Random(143)
        for web in (ways_tree(full(5), 0), line(120), drawn_tree(source, 60), star(50)):
            one, other = signed_of(web), signed_of(without_places(web, (1,)))
            assert_truth(self, True, lies_between(one, other), web)
            assert_truth(self, True, lies_between(product_of([other, (-99, 1)]), other), web)
            # The greatest root of the other is beyond all of the one's.
            beyond = signed_of(without_places(web, (1, 2)))
            assert_truth(self, False, lies_between(one, product_of([beyond, (-99, 1)])), web)

    def test_nothing_is_changed(self):
        assert_unchanged(self, lies_between, (0, -2, 0, 1), (-1, 0, 1))


class Reach(unittest.TestCase):
    def assert_reach(self, expected, web):
        self.assertEqual(exact(reach_of(web)), exact(expected), web)

    def test_webs(self):
        for n in range(10):
            self.assert_reach(0, bare(n))
            self.assert_reach((0, 0, 1)[n] if n < 3 else 4, line(n))
            self.assert_reach((0, 0, 1)[n] if n < 3 else 4 * (n - 2), full(n))
            self.assert_reach((0, 0, 1)[n] if n < 3 else 4 * (n - 2), star(n))
            if n >= 3:
                self.assert_reach(4, ring(n))
        self.assert_reach(1, (6, ((0, 5), (1, 4), (2, 3))))
        self.assert_reach(1, (3, ((0, 2),)))
        # The most ties are at a place that stands last in its ties, or in the middle.
        self.assert_reach(8, (4, ((0, 3), (1, 3), (2, 3))))
        self.assert_reach(12, (5, ((0, 2), (1, 2), (2, 3), (2, 4))))

    def test_no_root_lies_farther_out(self):
        for web in some_webs(each=4, seed=144):
            poly = signed_of(web)
            reach = reach_of(web)
            ties = [0] * web[0]
            for tie in web[1]:
                for place in tie:
                    ties[place] += 1
            most = max(ties, default=0)
            self.assertEqual(exact(reach), exact(4 * (most - 1) if most > 1 else most))
            # A little beyond the root of the reach: its square is above it.
            far = Fraction(1)
            while far * far <= reach:
                far += Fraction(1, 1000)
            self.assertEqual(below(poly, fraction_of(-far)), 0)
            self.assertEqual(below(poly, fraction_of(far)), web[0])

    def test_great_webs(self):
        self.assert_reach(4 * 9997, star(9999))
        self.assert_reach(4, line(9999))
        assert_unchanged(self, reach_of, star(5))


if __name__ == "__main__":
    unittest.main()
