import random
import unittest

from pairtally.errors import TooMany
from pairtally.largest import largest_told
from pairtally.largestchecker import lets_largest
from pairtally.webs import is_pairing
from pairtally.webtexts import read_web, web_text
from tests.support import (
    ODD_THINGS, all_pairings, assert_no_paper, assert_refused, assert_unchanged, bare, drawn_web, exact, full,
    kind_bends, line, ring, some_webs, star,
)

# Two rings of three, tied to one place: its odd parts show that one place stays unpaired.
TRIANGLES = (7, ((0, 1), (0, 2), (0, 6), (1, 2), (3, 4), (3, 5), (3, 6), (4, 5)))


def odd_parts(web, places):
    """Counted by putting names of places together, tie by tie."""
    name = {p: p for p in range(web[0]) if p not in places}
    for i, j in web[1]:
        if i in name and j in name:
            old, new = name[i], name[j]
            name = {p: new if name[p] == old else name[p] for p in name}
    names = list(name.values())
    return sum(names.count(one) % 2 for one in set(names))


class Checker(unittest.TestCase):
    def assert_size(self, size, web, paper):
        self.assertEqual(exact(lets_largest(web, paper)), exact(size))

    def test_right_papers(self):
        self.assert_size(0, bare(0), ((), ()))
        self.assert_size(0, bare(3), ((), ()))
        self.assert_size(1, line(2), (((0, 1),), ()))
        self.assert_size(1, line(2), (((0, 1),), (0,)))
        self.assert_size(1, line(3), (((0, 1),), ()))
        self.assert_size(1, star(6), (((0, 3),), (0,)))
        self.assert_size(2, ring(5), (((0, 1), (2, 3)), ()))
        self.assert_size(3, TRIANGLES, (((0, 6), (1, 2), (3, 4)), ()))

    def test_shape(self):
        for thing in ODD_THINGS:
            if exact(thing) != "((), ())":
                assert_no_paper(self, "shape", -1, lets_largest, line(3), thing)
        for paper in [(((0, 1),), (1,)), (((0, 1), (2, 3)), (0, 1, 4)), ((), ())]:
            for bent in kind_bends(paper):
                assert_no_paper(self, "shape", -1, lets_largest, line(5), bent)
        for paper in [
            (((0, 1),),), (((0, 1),), (), ()), (((2, 3), (0, 1)), ()), (((0, 1), (0, 1)), ()), (((1, 0),), ()),
            (((0, 2),), ()), (((4, 5),), ()), (((0, 1),), (5,)), (((0, 1),), (-1,)), (((0, 1),), (1, 0)),
            (((0, 1),), (1, 1)), (((0, 1, 2),), ()), (((0,),), ()), ((0, 1), ()), (((0, 1),), ((0, 1),)),
            (((0, 1),), 0), (((False, 1),), ()), (((0, True),), ()), (((0, 1),), (True,)), (((0, 1),), (False,)),
            (((0, 1),), [1]), ([(0, 1)], ()), (([0, 1],), ()), (((0, 1),), ("1",)), (((0, 1),), (None,)),
        ]:
            assert_no_paper(self, "shape", -1, lets_largest, line(5), paper)

    def test_shape_goes_first(self):
        assert_no_paper(self, "shape", -1, lets_largest, line(5), (((0, 1), (1, 2)), (7,)))

    def test_shares(self):
        assert_no_paper(self, "shares", 1, lets_largest, line(5), (((0, 1), (1, 2)), ()))
        assert_no_paper(self, "shares", 1, lets_largest, line(5), (((0, 1), (1, 2), (2, 3)), (0, 1, 2)))
        assert_no_paper(self, "shares", 0, lets_largest, full(4), (((0, 1), (0, 2), (1, 2)), ()))
        # The first share met is at 3, the least is 2.
        assert_no_paper(self, "shares", 2, lets_largest, (6, ((0, 3), (1, 3), (2, 4), (2, 5))),
                        (((0, 3), (1, 3), (2, 4), (2, 5)), ()))

    def test_odd_too_few_and_too_many(self):
        # Of the line of three, all three places are one odd part; without the middle one there are two.
        assert_no_paper(self, "odd", 1, lets_largest, line(3), ((), ()))
        assert_no_paper(self, "odd", 2, lets_largest, line(3), ((), (1,)))
        assert_no_paper(self, "odd", 0, lets_largest, line(3), (((0, 1),), (0,)))
        assert_no_paper(self, "odd", 0, lets_largest, line(4), (((1, 2),), ()))
        assert_no_paper(self, "odd", 0, lets_largest, line(2), (((0, 1),), (0, 1)))
        assert_no_paper(self, "odd", 5, lets_largest, star(6), ((), (0,)))

    def test_against_counting_and_going_through(self):
        source = random.Random(41)
        let_by = 0
        for web in some_webs(most=6, each=5, seed=42):
            known = all_pairings(web)
            most = max(len(pairing) for pairing in known)
            for again in range(40):
                pairing = source.choice(known)
                places = tuple(p for p in range(web[0]) if source.random() < 0.3)
                odd = odd_parts(web, places)
                if 2 * len(pairing) == web[0] + len(places) - odd:
                    let_by += 1
                    self.assertEqual(len(pairing), most)
                    self.assert_size(most, web, (pairing, places))
                else:
                    assert_no_paper(self, "odd", odd, lets_largest, web, (pairing, places))
        self.assertGreater(let_by, 100)

    def test_read_webs(self):
        web = read_web(web_text(line(3001)))
        pairing = tuple((k, k + 1) for k in range(0, 3000, 2))
        self.assert_size(1500, web, (pairing, ()))
        self.assert_size(1500, web, (pairing, tuple(range(1, 3001, 2))))

    def test_nothing_is_changed(self):
        assert_unchanged(self, lets_largest, line(5), [[(0, 1)], [1]])
        assert_unchanged(self, lets_largest, line(5), (((0, 1),), [1]))
        assert_unchanged(self, lets_largest, line(5), (((0, 1), (2, 3)), ()))


class Maker(unittest.TestCase):
    def test_told_papers(self):
        for web in some_webs(each=12, seed=43):
            self.assert_told(web, max(len(pairing) for pairing in all_pairings(web)))

    def assert_told(self, web, size):
        told = largest_told(web)
        self.assertIs(told.__class__, tuple)
        self.assertEqual(len(told), 2)
        self.assertTrue(is_pairing(web, told[0]))
        self.assertEqual(len(told[0]), size)
        self.assertEqual(exact(lets_largest(web, told)), exact(size))

    def test_ten_to_twelve_places(self):
        source = random.Random(44)
        for n in (10, 11, 12):
            for web in (bare(n), line(n), ring(n), star(n), full(n)):
                self.assert_told(web, {bare(n): 0, star(n): 1}.get(web, n // 2))
            for again in range(8):
                web = drawn_web(source, n, 0.15)
                self.assert_told(web, max(len(pairing) for pairing in all_pairings(web)))

    def test_odd_rings_and_parts(self):
        self.assert_told(TRIANGLES, 3)
        three = (12, tuple((i, j) for i in range(12) for j in range(i + 1, 12) if i // 3 == j // 3))
        self.assert_told(three, 4)
        # Three rings of three around one place: two of them keep a place unpaired.
        around = (10, tuple(sorted(three[1][:9] + ((0, 9), (3, 9), (6, 9)))))
        self.assert_told(around, 4)

    def test_too_many(self):
        for web in (bare(13), line(13), full(13), (10 ** 39, ())):
            assert_refused(self, TooMany, {}, largest_told, web)

    def test_nothing_hangs_on_what_was_asked(self):
        assert_unchanged(self, largest_told, TRIANGLES)


if __name__ == "__main__":
    unittest.main()
