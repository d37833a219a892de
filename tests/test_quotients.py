import itertools
import random
import unittest

from pairtally.errors import NoPaper, TooMany
from pairtally.polys import poly_product, poly_sum, times
from pairtally.quotientchecker import lets_quotient
from pairtally.quotients import quotient_paper
from pairtally.signed import signed_of
from pairtally.webs import without_places
from tests.support import (
    ODD_THINGS, assert_no_paper, assert_refused, assert_unchanged, bare, drawn_tree, drawn_web, exact, full, kind_bends,
    line, product_of, ring, some_webs, star,
)

X = (0, 1)
# The line 0-1-2 at its middle place.
LINE_PAPER = (((1,), 0, (1,), X), ((1,), 2, (1,), X), ((), 1, X, (-2, 0, 1)))
# The ring of three at place 0; the web of two places has the signed row -1 + x ** 2.
RING_PAPER = (
    ((0, 1), 2, (1,), X), ((0,), 1, X, (-1, 0, 1)), ((0, 2), 1, (1,), X), ((0,), 2, X, (-1, 0, 1)),
    ((), 0, (-1, 0, 1), (0, -3, 0, 1)),
)
PRIMES = (2, 3, 10 ** 9 + 7, 2 ** 31 - 1, 2 ** 61 - 1)


def put(things, k, thing):
    return things[:k] + (thing,) + things[k + 1:]


def pairs_gone_through(web, place):
    """The pairs (gone, here) that are due, by going all ways, but none on from a pair that is known."""
    tied = {here: set() for here in range(web[0])}
    for i, j in web[1]:
        tied[i].add(j)
        tied[j].add(i)
    known = set()

    def go(gone, here):
        if (gone, here) not in known and len(known) < 400:
            known.add((gone, here))
            for other in tied[here] - gone:
                go(gone | {here}, other)

    go(frozenset(), place)
    return known


def asked(web, entry):
    gone, here = entry[:2]
    tied = {i + j - here for i, j in web[1] if here in (i, j)}
    return [(tuple(sorted(gone + (here,))), other) for other in tied if other not in gone]


def tells_the_quotient(web, place, paper):
    top, bottom = paper[-1][2:]
    return product_of([top, signed_of(web)]) == product_of([bottom, signed_of(without_places(web, (place,)))])


class Right(unittest.TestCase):
    def assert_let_by(self, web, place, paper):
        self.assertIs(lets_quotient(web, place, paper), True)
        self.assertTrue(tells_the_quotient(web, place, paper))

    def test_small_ones(self):
        self.assert_let_by(line(3), 1, LINE_PAPER)
        self.assert_let_by(ring(3), 0, RING_PAPER)
        self.assert_let_by(bare(1), 0, (((), 0, (1,), X),))
        self.assert_let_by(bare(4), 2, (((), 2, (1,), X),))
        # Not made lesser by what goes into both.
        self.assert_let_by(line(3), 1, LINE_PAPER[:2] + (((), 1, (0, 0, 1), (0, -2, 0, 1)),))

    def test_top_and_bottom_times_a_poly(self):
        for poly in [(-1,), (7,), (10 ** 50,), (0, 1), (1, 1), (-3, 0, 2), tuple(range(1, 30))]:
            for web, place, paper in ((line(3), 1, LINE_PAPER), (ring(3), 0, RING_PAPER)):
                for k, (gone, here, top, bottom) in enumerate(paper):
                    entry = (gone, here, poly_product(top, poly), poly_product(bottom, poly))
                    self.assert_let_by(web, place, put(paper, k, entry))
                    # With another sign for one of both it is another quotient.
                    wrong = put(paper, k, (gone, here, times(entry[2], -1), entry[3]))
                    assert_no_paper(self, "product", k, lets_quotient, web, place, wrong)

    def test_entries_that_nobody_asks_for(self):
        more = (((0, 1, 2), 3, (5,), (0, 5)), ((1, 2), 0, (1,), X), ((), 3, (0, 2), (0, 0, 2)))
        web = (4, ring(3)[1])
        for entry in more:
            for k in range(len(RING_PAPER)):
                self.assert_let_by(web, 0, RING_PAPER[:k] + (entry,) + RING_PAPER[k:])
        self.assert_let_by(web, 0, more + RING_PAPER)
        self.assert_let_by(web, 3, RING_PAPER + more[2:])

    def test_entries_in_every_order(self):
        right = 0
        for paper in itertools.permutations(RING_PAPER):
            seen = [entry[:2] for entry in paper]
            late = [k for k, entry in enumerate(paper) if not set(asked(ring(3), entry)) <= set(seen[:k])]
            if late:
                assert_no_paper(self, "behind", late[0], lets_quotient, ring(3), 0, paper)
            else:
                right += 1
                self.assert_let_by(ring(3), 0, paper)
        self.assertEqual(right, 6)


class Wrong(unittest.TestCase):
    def refused(self, word, k, paper, web=ring(3), place=0):
        assert_no_paper(self, word, k, lets_quotient, web, place, paper)

    def test_odd_things(self):
        for thing in ODD_THINGS:
            if not isinstance(thing, tuple):
                self.refused("shape", -1, thing)
            elif thing:
                self.refused("entry", 0, thing)
            else:
                self.refused("last", -1, thing)
            for k in range(5):
                self.refused("entry", k, put(RING_PAPER, k, thing))
        self.refused("shape", -1, list(RING_PAPER))

    def test_bent_at_any_depth(self):
        for k, entry in enumerate(RING_PAPER):
            for bent in kind_bends(entry):
                self.refused("entry", k, put(RING_PAPER, k, bent))

    def test_no_entries(self):
        for k in range(5):
            gone, here, top, bottom = RING_PAPER[k]
            for entry in [
                (gone, here, top), (gone, here, top, bottom, ()), (gone, here, (), bottom), (gone, here, top, ()),
                (gone, here, top + (0,), bottom), (gone, here, top, bottom + (0,)), (gone, here, (0,), bottom),
                (gone, -1, top, bottom), (gone, 3, top, bottom), ((-1,), here, top, bottom), ((3,), here, top, bottom),
                ((here,), here, top, bottom), (gone + (here,), here, top, bottom), ((2, 1), 0, top, bottom),
                ((1, 1), 0, top, bottom), ((1, 0), 2, top, bottom), ((0, 1, 2), 0, top, bottom), (here, gone, top, bottom),
                ([*gone], here, top, bottom), ((True,), 2, top, bottom), ((2,), True, top, bottom),
                (gone, here, [*top], bottom), (gone, here, 1, bottom), (gone, here, top, None), [gone, here, top, bottom],
                ((False, 2), 1, top, bottom), ("", here, top, bottom), (gone, "0", top, bottom),
            ]:
                self.refused("entry", k, put(RING_PAPER, k, entry))

    def test_gone_and_here_that_stand_ahead(self):
        for k in range(5):
            for at in range(k + 1, 6):
                paper = RING_PAPER[:at] + (RING_PAPER[k],) + RING_PAPER[at:]
                self.refused("entry", at, paper)
                other = RING_PAPER[k][:2] + ((7,), (3, 4))
                self.refused("entry", at, RING_PAPER[:at] + (other,) + RING_PAPER[at:])

    def test_behind(self):
        for k in range(4):
            paper = RING_PAPER[:k] + RING_PAPER[k + 1:]
            self.refused("behind", {0: 0, 1: 3, 2: 2, 3: 3}[k], paper)
        self.refused("behind", 0, RING_PAPER[4:])
        self.refused("behind", 0, LINE_PAPER[2:], line(3), 1)
        # Entries of like places, but with other ones gone, do not serve.
        self.refused("behind", 2, (((1, 2), 0, (1,), X), LINE_PAPER[1], LINE_PAPER[2]), line(3), 1)
        self.refused("behind", 2, (((1,), 0, (1,), X), ((0, 1), 2, (1,), X), LINE_PAPER[2]), line(3), 1)

    def test_product(self):
        for k, (gone, here, top, bottom) in enumerate(RING_PAPER):
            for other in self.others(top):
                self.refused("product", k, put(RING_PAPER, k, (gone, here, other, bottom)))
            for other in self.others(bottom):
                self.refused("product", k, put(RING_PAPER, k, (gone, here, top, other)))
            self.refused("product", k, put(RING_PAPER, k, (gone, here, bottom, top)))

    def others(self, poly):
        """Other polys, unlike it only by a whole number, a power of x, or where it is not looked at."""
        yield from (times(poly, 2), times(poly, -1), poly + (1,), (0,) + poly, poly_sum(poly, (0, 0, 0, 0, 1)))
        for prime in PRIMES:
            yield poly_sum(poly, (prime,))
            yield poly_sum(poly, (0, prime))
            yield poly_sum(poly, (0, 0, 0, 0, 0, prime * prime))
        yield poly_sum(poly, product_of([(-at, 1) for at in range(-18, 19)]))
        yield poly_sum(poly, times(product_of([(-at, 1) for at in range(-9, 10)]), PRIMES[2] * PRIMES[3] * PRIMES[4]))
        yield poly_sum(poly, times((2, 0, -3, 1), PRIMES[0] * PRIMES[1] * PRIMES[4]))

    def test_last(self):
        self.refused("last", -1, ())
        self.refused("last", -1, (), bare(1))
        self.refused("last", -1, RING_PAPER, ring(3), 1)
        self.refused("last", -1, RING_PAPER[:4])
        self.refused("last", -1, RING_PAPER[:1])
        self.refused("last", -1, RING_PAPER + (((1, 2), 0, (1,), X),))
        self.refused("last", -1, LINE_PAPER, line(3), 0)
        self.refused("last", -1, (((1,), 0, (1,), X),), bare(2), 0)

    def test_order_of_the_words(self):
        no_product = put(RING_PAPER, 0, ((0, 1), 2, (2,), X))
        self.refused("product", 0, no_product[:1] + no_product[4:])
        self.refused("behind", 0, (no_product[1], no_product[0]) + no_product[2:])
        self.refused("entry", 4, no_product[:4] + (None,))
        self.refused("entry", 1, (RING_PAPER[4], None))
        self.refused("entry", 5, (RING_PAPER[4],) + RING_PAPER)
        self.refused("behind", 0, (RING_PAPER[4],), ring(3), 1)
        # Of one entry what is behind goes first.
        self.refused("behind", 0, (((), 0, (5,), (7,)),))
        self.refused("product", 0, (((), 0, (5,), (7,)),), bare(1), 0)

    def test_what_is_let_by_is_so(self):
        source = random.Random(191)
        seen = {True: 0, False: 0}
        for again in range(400):
            web = drawn_web(source, source.randrange(2, 5), 0.6)
            place = source.randrange(web[0])
            paper = [self.bent(source, entry) for entry in quotient_paper(web, place)]
            if source.random() < 0.3:
                source.shuffle(paper)
            try:
                lets_quotient(web, place, tuple(paper))
                seen[True] += 1
                self.assertTrue(tells_the_quotient(web, place, tuple(paper)))
            except NoPaper:
                seen[False] += 1
        self.assertGreater(min(seen.values()), 80)

    def bent(self, source, entry):
        gone, here, top, bottom = entry
        poly = source.choice(((1,), (1,), (-2,), (1, 1), (0, 3)))
        top, bottom = poly_product(top, poly), poly_product(bottom, poly)
        if source.random() < 0.04:
            top = poly_sum(top, (0, 0, 1)) or (1,)
        return gone, here, top, bottom

    def test_nothing_is_changed(self):
        assert_unchanged(self, lets_quotient, ring(3), 0, [list(entry) for entry in RING_PAPER])
        assert_unchanged(self, lets_quotient, ring(3), 0, put(RING_PAPER, 2, list(RING_PAPER[2])))
        assert_unchanged(self, lets_quotient, ring(3), 0, RING_PAPER)
        assert_unchanged(self, lets_quotient, ring(3), 1, RING_PAPER)


class Maker(unittest.TestCase):
    def assert_paper(self, web, place):
        paper = quotient_paper(web, place)
        self.assertIs(paper.__class__, tuple)
        self.assertIs(lets_quotient(web, place, paper), True)
        self.assertTrue(tells_the_quotient(web, place, paper))
        return paper

    def test_small_webs(self):
        for web in some_webs(most=6, each=6, seed=192):
            for place in range(web[0]):
                paper = self.assert_paper(web, place)
                due = {(frozenset(gone), here) for gone, here, top, bottom in paper}
                self.assertLessEqual(pairs_gone_through(web, place), due)

    def test_too_many(self):
        source = random.Random(193)
        seen = {True: 0, False: 0}
        webs = [full(7), full(8), full(9), ring(9), line(9)]
        webs += [drawn_web(source, n, source.uniform(0.4, 0.95)) for n in (7, 8, 9) for again in range(25)]
        for web in webs:
            place = source.randrange(web[0])
            many = len(pairs_gone_through(web, place)) > 300
            seen[many] += 1
            if many:
                assert_refused(self, TooMany, {}, quotient_paper, web, place)
            else:
                self.assert_paper(web, place)
        self.assertGreater(min(seen.values()), 10)

    def test_just_300_pairs(self):
        self.assert_paper(star(300), 0)
        self.assert_paper(star(300), 4)
        assert_refused(self, TooMany, {}, quotient_paper, star(301), 0)
        assert_refused(self, TooMany, {}, quotient_paper, star(301), 4)
        assert_refused(self, TooMany, {}, quotient_paper, line(301), 150)
        source = random.Random(194)
        self.assert_paper(drawn_tree(source, 300), 0)
        assert_refused(self, TooMany, {}, quotient_paper, drawn_tree(source, 301), 0)
        # A ring of 16, seen from a place of it, has two pairs a place but for the first.
        self.assertEqual(len(self.assert_paper(ring(16), 5)), 31)

    def test_great_webs_of_several_parts(self):
        web = (400, line(40)[1] + tuple((i + 40, j + 40) for i, j in line(360)[1]))
        self.assert_paper(web, 20)
        assert_refused(self, TooMany, {}, quotient_paper, web, 300)

    def test_nothing_is_changed(self):
        assert_unchanged(self, quotient_paper, full(4), 2)
        assert_unchanged(self, quotient_paper, full(9), 2)


if __name__ == "__main__":
    unittest.main()
