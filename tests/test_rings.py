import itertools
import random
import unittest

from pairtally.pairings import row_of
from pairtally.ringchecker import lets_rings
from pairtally.rings import forest_row, ring_paper
from pairtally.rows import row_product
from pairtally.webtexts import read_web, web_text
from tests.support import (
    ODD_THINGS, assert_no_paper, assert_unchanged, bare, drawn_tree, drawn_web, exact, full, kind_bends, line, ring,
    row_gone_through, some_webs, star,
)

# A ring of four, 1 2 4 3, with 0 and 5 hung to it; 6 is alone.
POND = (7, ((0, 1), (1, 2), (1, 3), (2, 4), (3, 4), (4, 5)))


def has_ring(web):
    """Found by putting places together, tie by tie: a tie within what is together closes a ring."""
    name = list(range(web[0]))
    for i, j in web[1]:
        if name[i] == name[j]:
            return True
        name = [name[i] if one == name[j] else one for one in name]
    return False


def first_wrong(web, word, places):
    """The first k whose ties are wrong, as the document tells it; None where all are right."""
    tied = set(web[1]) | {(j, i) for i, j in web[1]}
    for k, place in enumerate(places):
        behind = places[k + 1:]
        if word == "ring" and (place, (behind or places)[0]) not in tied:
            return k
        if word == "ringless" and sum((place, other) in tied for other in behind) > 1:
            return k
    return None


class Checker(unittest.TestCase):
    def assert_let_by(self, web, word, places):
        self.assertEqual(exact(lets_rings(web, (word, places))), exact(word))

    def refused(self, word, place, web, paper):
        assert_no_paper(self, word, place, lets_rings, web, paper)

    def test_right_papers(self):
        self.assert_let_by(bare(0), "ringless", ())
        self.assert_let_by(bare(1), "ringless", (0,))
        self.assert_let_by(bare(3), "ringless", (2, 0, 1))
        self.assert_let_by(line(4), "ringless", (0, 1, 2, 3))
        self.assert_let_by(line(4), "ringless", (3, 0, 2, 1))
        self.assert_let_by(star(4), "ringless", (3, 1, 2, 0))
        self.assert_let_by(star(4), "ringless", (3, 1, 0, 2))
        self.assert_let_by(ring(3), "ring", (0, 1, 2))
        self.assert_let_by(ring(3), "ring", (1, 0, 2))
        self.assert_let_by(POND, "ring", (1, 2, 4, 3))
        self.assert_let_by(POND, "ring", (3, 4, 2, 1))
        self.assert_let_by(full(5), "ring", (4, 0, 3))
        self.assert_let_by(full(5), "ring", (4, 0, 3, 1, 2))

    def test_every_order_of_small_webs(self):
        for web in some_webs(most=4, each=8, seed=161) + [ring(5), full(5), star(5), line(5)]:
            for many in range(web[0] + 1):
                for places in itertools.permutations(range(web[0]), many):
                    for word, least in (("ringless", web[0]), ("ring", 3)):
                        self.look_at(web, word, places, least)

    def look_at(self, web, word, places, least):
        if len(places) < least:
            self.refused("order", len(places), web, (word, places))
            return
        wrong = first_wrong(web, word, places)
        if wrong is not None:
            self.refused("tie", wrong, web, (word, places))
        else:
            self.assert_let_by(web, word, places)
            self.assertIs(has_ring(web), word == "ring")

    def test_shape(self):
        for web in (bare(0), POND):
            for thing in ODD_THINGS:
                self.refused("shape", -1, web, thing)
                self.refused("shape", -1, web, (thing, ()))
                if not isinstance(thing, tuple):
                    self.refused("shape", -1, web, ("ring", thing))
                    self.refused("shape", -1, web, ("ringless", thing))
        for paper in [
            ("ring",), ("ring", (1, 2, 4, 3), ()), ("ring", [1, 2, 4, 3]), ["ring", (1, 2, 4, 3)], ("rings", (1, 2, 4, 3)),
            ("Ring", (1, 2, 4, 3)), ("", (1, 2, 4, 3)), ((1, 2, 4, 3), "ring"), ("ring", 1, 2, 4, 3), ("ring", "1243"),
            (("ring",), (1, 2, 4, 3)), ("ring", None), (None, ()), (0, ()), ("ringless ", ()), ("ringles", ()),
        ]:
            self.refused("shape", -1, POND, paper)

    def test_no_places(self):
        for odd in ODD_THINGS + (7, 8, -1, -7, "0", "6", [1]):
            if exact(odd) not in ("0", "1"):
                self.refused("order", 1, POND, ("ring", (4, odd, 4, None)))
                self.refused("order", 2, POND, ("ringless", (4, 3, odd, 4)))
                self.refused("order", 0, POND, ("ringless", (odd,)))
                self.refused("order", 0, POND, ("ring", (odd,)))

    def test_places_that_stand_ahead(self):
        self.refused("order", 1, POND, ("ring", (1, 1, None)))
        self.refused("order", 3, POND, ("ring", (1, 2, 4, 2)))
        self.refused("order", 4, POND, ("ring", (1, 2, 4, 3, 1)))
        self.refused("order", 2, POND, ("ringless", (5, 6, 5)))
        self.refused("order", 7, POND, ("ringless", (0, 5, 6, 1, 2, 3, 4, 0)))
        self.refused("order", 7, POND, ("ringless", (0, 5, 6, 1, 2, 3, 4, 7)))
        self.refused("order", 0, bare(0), ("ringless", (0,)))
        self.refused("order", 0, bare(0), ("ring", (0, 1, 2)))
        # A truth is no place, though a place that is like it stands ahead, or is to come.
        self.refused("order", 1, POND, ("ring", (1, True, 2)))
        self.refused("order", 0, POND, ("ring", (True, 2, 4, 3)))
        self.refused("order", 0, ring(3), ("ring", (False, 1, 2)))
        self.refused("order", 1, line(2), ("ringless", (0, True)))

    def test_some_lack(self):
        self.refused("order", 0, POND, ("ringless", ()))
        self.refused("order", 6, POND, ("ringless", (0, 5, 6, 1, 2, 3)))
        self.refused("order", 3, line(4), ("ringless", (0, 1, 2)))
        self.refused("order", 0, POND, ("ring", ()))
        self.refused("order", 1, POND, ("ring", (1,)))
        self.refused("order", 2, POND, ("ring", (1, 2)))
        self.refused("order", 0, bare(0), ("ring", ()))
        self.refused("order", 2, line(2), ("ring", (0, 1)))

    def test_ties_of_ringless(self):
        self.refused("tie", 0, line(3), ("ringless", (1, 0, 2)))
        self.refused("tie", 1, line(4), ("ringless", (0, 2, 1, 3)))
        self.refused("tie", 1, star(4), ("ringless", (1, 0, 2, 3)))
        self.refused("tie", 3, POND, ("ringless", (0, 5, 6, 1, 2, 3, 4)))
        self.refused("tie", 0, full(4), ("ringless", (3, 2, 1, 0)))
        self.refused("tie", 2, (5, ((0, 1), (0, 2), (0, 3), (1, 4))), ("ringless", (4, 3, 0, 1, 2)))

    def test_ties_of_ring(self):
        self.refused("tie", 0, POND, ("ring", (0, 2, 4)))
        self.refused("tie", 1, POND, ("ring", (1, 2, 3)))
        self.refused("tie", 2, POND, ("ring", (1, 2, 4)))
        self.refused("tie", 3, POND, ("ring", (0, 1, 2, 4)))
        self.refused("tie", 3, line(4), ("ring", (0, 1, 2, 3)))
        self.refused("tie", 0, bare(4), ("ring", (0, 1, 2, 3)))

    def test_order_goes_ahead_of_ties(self):
        self.refused("order", 4, POND, ("ring", (0, 2, 5, 6, 0)))
        self.refused("order", 3, line(4), ("ringless", (1, 0, 2)))
        self.refused("order", 3, line(4), ("ringless", (1, 0, 2, 4)))
        self.refused("order", 2, POND, ("ring", (0, 2)))

    def test_great_webs(self):
        web = read_web(web_text(line(400)))
        self.assert_let_by(web, "ringless", tuple(range(400)))
        self.assert_let_by(web, "ringless", tuple(range(399, -1, -1)))
        self.refused("tie", 0, web, ("ringless", (200, *range(200), *range(201, 400))))
        self.refused("tie", 399, web, ("ring", tuple(range(400))))
        self.assert_let_by(ring(400), "ring", tuple(range(400)))

    def test_bent_at_any_depth(self):
        paper = ("ring", (1, 2, 4, 3))
        for bent in kind_bends(paper[1]):
            if isinstance(bent, tuple):
                first = [exact(one) == exact(other) for one, other in zip(bent, paper[1])].index(False)
                self.refused("order", first, POND, ("ring", bent))
            else:
                self.refused("shape", -1, POND, ("ring", bent))
        for bent in kind_bends(paper[0]):
            self.refused("shape", -1, POND, (bent, paper[1]))

    def test_nothing_is_changed(self):
        assert_unchanged(self, lets_rings, POND, ["ring", [1, 2, 4, 3]])
        assert_unchanged(self, lets_rings, POND, ("ring", [1, 2, 4, 3]))
        assert_unchanged(self, lets_rings, POND, ("ring", (1, 2, [4], 3)))
        assert_unchanged(self, lets_rings, POND, ("ring", (1, 2, 4, 3)))


class Maker(unittest.TestCase):
    def assert_paper(self, web):
        paper = ring_paper(web)
        self.assertIs(paper.__class__, tuple)
        expected = "ring" if has_ring(web) else "ringless"
        self.assertEqual(exact(lets_rings(web, paper)), exact(expected))
        self.assertEqual(paper[0], expected)

    def test_small_webs(self):
        for web in some_webs(each=25, seed=171):
            self.assert_paper(web)

    def test_webs_with_few_ties(self):
        source = random.Random(172)
        for again in range(300):
            self.assert_paper(drawn_web(source, source.randrange(3, 10), 0.2))

    def test_several_parts(self):
        beside = tuple((i + 4, j + 4) for i, j in ring(5)[1])
        self.assert_paper((9, tuple(sorted(line(4)[1] + beside))))
        self.assert_paper((9, tuple(sorted(star(4)[1] + beside[1:]))))
        self.assert_paper(POND)

    def test_great_webs(self):
        source = random.Random(173)
        for n in (100, 399, 400):
            for web in (line(n), star(n), bare(n), drawn_tree(source, n)):
                self.assert_paper(read_web(web_text(web)))
        forest = (400, tuple(tie for tie in drawn_tree(source, 400)[1] if source.random() < 0.8))
        self.assert_paper(read_web(web_text(forest)))
        self.assert_paper(ring(400))
        self.assert_paper((400, tuple(sorted(line(400)[1] + ((100, 300),)))))

    def test_nothing_is_changed(self):
        assert_unchanged(self, ring_paper, POND)
        assert_unchanged(self, ring_paper, line(5))
        assert_unchanged(self, forest_row, POND)
        assert_unchanged(self, forest_row, line(5))


class ForestRow(unittest.TestCase):
    def test_small_webs(self):
        seen = {True: 0, False: 0}
        for web in some_webs(most=8, each=25, seed=181):
            told = forest_row(web)
            seen[has_ring(web)] += 1
            if has_ring(web):
                self.assertIsNone(told)
            else:
                self.assertEqual(exact(told), exact(row_gone_through(web)))
        self.assertGreater(min(seen.values()), 30)

    def test_drawn_forests(self):
        source = random.Random(182)
        for again in range(60):
            tree = drawn_tree(source, source.randrange(2, 15))
            web = (tree[0], tuple(tie for tie in tree[1] if source.random() < 0.8))
            self.assertEqual(exact(forest_row(web)), exact(row_gone_through(web)))
            self.assertEqual(forest_row(web), row_of(web))

    def test_edges(self):
        self.assertEqual(exact(forest_row(bare(0))), "(1,)")
        self.assertEqual(exact(forest_row(bare(400))), "(1,)")
        self.assertEqual(exact(forest_row(star(400))), "(1, 399)")
        self.assertIsNone(forest_row(ring(3)))
        self.assertIsNone(forest_row(ring(400)))
        # A ring and a place alone: as many ties as a line has.
        self.assertIsNone(forest_row((4, ((0, 1), (0, 2), (1, 2)))))

    def test_great_webs(self):
        source = random.Random(183)
        for n in (100, 400):
            for web in (line(n), drawn_tree(source, n)):
                web = read_web(web_text(web))
                self.assertEqual(exact(forest_row(web)), exact(row_of(web)))
        # By lines of 200, with and without the tie between them.
        half, less = forest_row(line(200)), forest_row(line(199))
        apart, joined = row_product(half, half), row_product(less, less)
        self.assertEqual(forest_row(line(400)), tuple(
            a + b for a, b in itertools.zip_longest(apart, (0, *joined), fillvalue=0)))


if __name__ == "__main__":
    unittest.main()
