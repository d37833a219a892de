import unittest
from fractions import Fraction

from pairtally.making import full_web, line_web, ring_web
from pairtally.sharechecker import lets_share
from pairtally.shares import share_paper
from pairtally.sided import sided_web
from pairtally.weights import share
from tests.support import all_pairings, assert_no_paper, assert_unchanged, exact, fraction_of, line, ring, some_webs


class SharePapers(unittest.TestCase):
    def test_let_by_for_the_share_alone(self):
        for web in some_webs(each=4, seed=361):
            every = all_pairings(web) if web[0] < 8 else []
            for tie in web[1]:
                paper = share_paper(web, tie)
                self.assertIs(paper.__class__, tuple)
                top, bottom = share(web, (1,) * len(web[1]), tie)
                if every:
                    holding = sum(tie in pairing for pairing in every)
                    self.assertEqual((top, bottom), fraction_of(Fraction(holding, len(every))))
                self.assertIs(lets_share(web, tie, (top, bottom), paper), True)
                near = [Fraction(top, bottom) + Fraction(sign, bottom * (bottom + 1)) for sign in (-1, 1)]
                for other in (*near, 0, 1, Fraction(top + 1, bottom), Fraction(-top, bottom), Fraction(bottom, top)):
                    assert_no_paper(self, "share", 0, lets_share, web, tie, fraction_of(Fraction(other)), paper)

    def test_of_other_ties_and_webs(self):
        paper = share_paper(line(4), (0, 1))
        self.assertIs(lets_share(line(4), (0, 1), (2, 5), paper), True)
        # The web without places 2 and 3 is the same, without 1 and 2 it is another one.
        self.assertIs(lets_share(line(4), (2, 3), (2, 5), paper), True)
        assert_no_paper(self, "kept", 0, lets_share, line(4), (1, 2), (1, 5), paper)
        assert_no_paper(self, "whole", 0, lets_share, ring(4), (0, 1), (2, 7), paper)

    def test_told_webs_of_more_places(self):
        for web in (line_web(12), ring_web(12), full_web(12), sided_web(5, 6)):
            tie = web[1][len(web[1]) // 2]
            told = share(web, (1,) * len(web[1]), tie)
            self.assertIs(lets_share(web, tie, told, share_paper(web, tie)), True)

    def test_nothing_is_changed(self):
        assert_unchanged(self, share_paper, ring(6), (0, 5))
        self.assertEqual(exact(share_paper(line(2), (0, 1))[:2]), "('share', (1, 1))")


if __name__ == "__main__":
    unittest.main()
