import itertools
import random
import unittest

from pairtally.counting import count_paper
from pairtally.families import family_pair, family_paper
from pairtally.joining import side_by_side
from pairtally.likechecker import lets_like
from pairtally.liking import beside, for_rests, like_told
from pairtally.making import fork_web, full_web, line_web, ring_web
from pairtally.pairings import row_of
from pairtally.rests import rest_web
from pairtally.webs import renumbered
from tests.support import assert_unchanged, bare, drawn_web, exact, full, line, ring, row_gone_through, some_webs, star
from tests.test_likechecker import MIXED


def unlike_size(one, other):
    """The least size, by going through all pairings, or None."""
    for size, pair in enumerate(itertools.zip_longest(row_gone_through(one), row_gone_through(other), fillvalue=0)):
        if pair[0] != pair[1]:
            return size
    return None


class Told(unittest.TestCase):
    def assert_told(self, one, other):
        told = like_told(one, other)
        size = unlike_size(one, other)
        self.assertIs(told.__class__, tuple)
        if size is None:
            self.assertEqual((len(told), told[0]), (2, "like"))
            self.assertIs(lets_like(one, other, told[1]), True)
        else:
            self.assertEqual(exact(told), exact(("unlike", size)))
        return told[0]

    def test_pairs_of_small_webs(self):
        webs = some_webs(most=5, each=5, seed=351)
        words = [self.assert_told(one, other) for one, other in itertools.product(webs, webs)]
        self.assertGreater(words.count("like"), len(webs))
        self.assertGreater(words.count("unlike"), len(webs))

    def test_renumbered(self):
        source = random.Random(352)
        for web in some_webs(each=3, seed=353):
            other = renumbered(web, tuple(source.sample(range(web[0]), web[0])))
            self.assertEqual(self.assert_told(web, other), "like")

    def test_a_tie_more_or_fewer(self):
        for web in some_webs(each=3, seed=354):
            for k in range(len(web[1])):
                less = (web[0], web[1][:k] + web[1][k + 1:])
                self.assertEqual(exact(like_told(web, less)), "('unlike', 1)")
                self.assertEqual(exact(like_told(less, web)), "('unlike', 1)")

    def test_unlike_webs_of_one_row(self):
        for word, n in [("fork", n) for n in range(4, 10)] + [("line", n) for n in range(2, 5)]:
            one, other = family_pair(word, n)
            self.assertEqual(self.assert_told(one, other), "like")
            self.assertEqual(self.assert_told(other, one), "like")

    def test_unlike_many_places(self):
        for web in some_webs(most=6, each=2, seed=355):
            self.assertEqual(self.assert_told(web, side_by_side(web, bare(3))), "like")
            self.assertEqual(self.assert_told(side_by_side(bare(2), web), web), "like")
        self.assertEqual(self.assert_told(bare(0), bare(9)), "like")
        self.assertEqual(self.assert_told(star(4), ring(3)), "like")

    def test_the_least_size(self):
        self.assertEqual(exact(like_told(bare(2), line(2))), "('unlike', 1)")
        # Behind the end of the one row stands 0.
        self.assertEqual(exact(like_told(star(4), line(4))), "('unlike', 2)")
        self.assertEqual(exact(like_told(line(4), star(4))), "('unlike', 2)")
        three = (6, ((0, 1), (2, 3), (4, 5)))
        self.assertEqual(exact(like_told(three, line(4))), "('unlike', 2)")
        path = (9, ((0, 1), (0, 2), (3, 4), (5, 6), (7, 8)))
        self.assert_told(path, (9, ((0, 1), (2, 3), (3, 4), (5, 6), (7, 8))))
        six = side_by_side(ring(3), ring(3))
        self.assertEqual(exact(like_told(six, ring(6))), "('unlike', 3)")

    def test_drawn_webs(self):
        source = random.Random(356)
        for again in range(150):
            n = source.randint(5, 9)
            self.assert_told(drawn_web(source, n, 0.4), drawn_web(source, source.choice((n, n - 1)), 0.4))

    def test_told_webs_of_more_places(self):
        for one, other in (family_pair("fork", 12), (ring_web(12), line_web(12)), (full_web(12), full_web(11)),
                           (line_web(12), renumbered(line_web(12), tuple(range(12))[::-1])),
                           (fork_web(12), fork_web(12))):
            told = like_told(one, other)
            if row_of(one) == row_of(other):
                self.assertIs(lets_like(one, other, told[1]), True)
            else:
                self.assertEqual(told[0], "unlike")

    def test_nothing_is_changed(self):
        assert_unchanged(self, like_told, star(4), ring(3))
        assert_unchanged(self, like_told, star(4), ring(4))


def some_papers():
    """Like papers of each way, of the families, told ones."""
    papers = [MIXED[:k] for k in range(1, len(MIXED) + 1)]
    papers += [family_paper("fork", n) for n in range(4, 10)] + [family_paper("line", n) for n in range(2, 5)]
    source = random.Random(357)
    for web in some_webs(each=2, seed=358):
        other = renumbered(web, tuple(source.sample(range(web[0]), web[0])))
        papers.append(like_told(web, other)[1])
    papers.append(like_told(bare(0), bare(0))[1])
    return papers


class MadeOfPapers(unittest.TestCase):
    def assert_for(self, one, other, paper):
        self.assertIs(paper.__class__, tuple)
        self.assertIs(lets_like(one, other, paper), True)

    def test_for_rests(self):
        for paper in some_papers():
            one, other = paper[-1][:2]
            self.assert_for(rest_web(one), rest_web(other), for_rests(paper))

    def test_beside(self):
        for paper in some_papers():
            one, other = paper[-1][:2]
            for web in (bare(0), bare(1), line(3), ring(5), full(9), one, other):
                told = beside(paper, web)
                self.assert_for(side_by_side(one, web), side_by_side(other, web), told)

    def test_of_webs_of_unlike_many_places(self):
        for one, other in ((bare(0), bare(4)), (star(4), ring(3)), (ring(3), star(4))):
            paper = like_told(one, other)[1]
            for web in (bare(0), line(2), full(5)):
                self.assert_for(side_by_side(one, web), side_by_side(other, web), beside(paper, web))

    def test_one_made_of_the_other(self):
        for paper in some_papers()[::3]:
            one, other = paper[-1][:2]
            web = line(3)
            both = side_by_side(one, web), side_by_side(other, web)
            self.assert_for(rest_web(both[0]), rest_web(both[1]), for_rests(beside(paper, web)))
            rests = rest_web(one), rest_web(other)
            self.assert_for(side_by_side(rests[0], web), side_by_side(rests[1], web), beside(for_rests(paper), web))
            self.assert_for(one, other, for_rests(for_rests(paper)))
            twice = beside(beside(paper, web), web)
            self.assert_for(side_by_side(both[0], web), side_by_side(both[1], web), twice)

    def test_up_to_sixty_places(self):
        paper = family_paper("fork", 9)
        one, other = family_pair("fork", 9)
        while one[0] + 9 <= 60:
            web = ring(9)
            paper = beside(paper, web)
            one, other = side_by_side(one, web), side_by_side(other, web)
            self.assert_for(one, other, paper)
            self.assert_for(rest_web(one), rest_web(other), for_rests(paper))
        last = beside(paper, bare(60 - one[0]))
        self.assertEqual(last[-1][0][0], 60)
        self.assert_for(last[-1][0], last[-1][1], last)
        sixty = ((bare(60), bare(60), ("same", tuple(range(60)))),)
        self.assert_for(bare(60), bare(60), beside(sixty, bare(0)))
        self.assert_for(full(60), full(60), for_rests(sixty))

    def test_two_hundred_entries(self):
        paper = MIXED * 18 + MIXED[:2]
        self.assertEqual(len(paper), 200)
        one, other = paper[-1][:2]
        self.assert_for(rest_web(one), rest_web(other), for_rests(paper))
        self.assert_for(side_by_side(one, ring(9)), side_by_side(other, ring(9)), beside(paper, ring(9)))

    def test_nothing_is_changed(self):
        paper = ((line(2), line(2), ("rows", (1, 1), count_paper(line(2)), count_paper(line(2)))),)
        assert_unchanged(self, for_rests, paper)
        assert_unchanged(self, beside, paper, ring(3))


if __name__ == "__main__":
    unittest.main()
