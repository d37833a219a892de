import random
import unittest
from fractions import Fraction

from pairtally.counting import count_paper
from pairtally.pairings import row_of
from pairtally.sharechecker import lets_share
from pairtally.webs import renumbered, without_places
from tests.support import (
    ODD_THINGS, all_pairings, assert_no_paper, assert_unchanged, bare, fraction_of, full, kind_bends, line, ring,
    some_webs,
)


def share_through(web, tie):
    """The FRACTION of the pairings that hold the tie, by going through."""
    every = all_pairings(web)
    return fraction_of(Fraction(sum(tie in pairing for pairing in every), len(every)))


def paper_by_hand(web, tie):
    kept = without_places(web, tie)
    return "share", row_of(web), count_paper(web), row_of(kept), count_paper(kept)


WEB = ring(5)
TIE = (1, 2)
SHARE = (3, 11)
PAPER = paper_by_hand(WEB, TIE)


class Right(unittest.TestCase):
    def test_let_by_for_the_share_alone(self):
        for web in some_webs(each=2, most=8, seed=331):
            for tie in web[1][:4]:
                paper = paper_by_hand(web, tie)
                top, bottom = share_through(web, tie)
                self.assertIs(lets_share(web, tie, (top, bottom), paper), True)
                for other in (Fraction(top + 1, bottom), Fraction(top, bottom + 1), Fraction(-top, bottom), 0, 1):
                    assert_no_paper(self, "share", 0, lets_share, web, tie, fraction_of(Fraction(other)), paper)

    def test_papers_any_right_ones(self):
        """Count papers that others wrote are as good."""
        web = (2, ((0, 1),))
        whole = (((0, ()), (1,), ("bare",)), ((2, ()), (1,), ("bare",)), (web, (1, 1), ("tie", (0, 1))))
        kept = (((0, ()), (1,), ("parts",)),)
        self.assertIs(lets_share(web, (0, 1), (1, 2), ("share", (1, 1), whole, (1,), kept)), True)


class Wrong(unittest.TestCase):
    def refused(self, word, paper, web=WEB, tie=TIE, fraction=SHARE):
        assert_no_paper(self, word, 0, lets_share, web, tie, fraction, paper)

    def test_right_as_it_is(self):
        self.assertIs(lets_share(WEB, TIE, SHARE, PAPER), True)

    def test_odd_things(self):
        for thing in ODD_THINGS:
            self.refused("shape", thing)

    def test_shape(self):
        word, row, paper, other, kept = PAPER
        for thing in [
            list(PAPER), PAPER[:4], PAPER + (None,), (PAPER,), (word, row, paper, other), PAPER[1:], PAPER[::-1],
        ]:
            self.refused("shape", thing)
        for wrong in ("Share", "shares", "", None, 0, ("share",), ["share"], "whole"):
            self.refused("shape", (wrong, row, paper, other, kept))
        for wrong in [
            (), [1, 5, 5], (1, 5, 0), (1, 0, 5), (0, 5, 5), (1, -5, 5), (True, 5, 5), (1, 5, "5"), (1, 5, None),
            (1, (5,), 5), None, 1, "155", ((1, 5, 5),), (1, 5, [5]), (0,), (False,), (True,),
        ]:
            self.refused("shape", (word, wrong, paper, other, kept))
            self.refused("shape", (word, row, paper, wrong, kept))
        for at in (0, 1, 3):
            for bent in kind_bends(PAPER[at]):
                self.refused("shape", PAPER[:at] + (bent,) + PAPER[at + 1:])

    def test_whole(self):
        word, row, paper, other, kept = PAPER
        for wrong in ODD_THINGS + (kept, paper[:-1], list(paper), paper + kept, count_paper(line(5)), (paper,)):
            self.refused("whole", (word, row, wrong, other, kept))
        for wrong in ((1, 5, 6), (1, 5), (1, 5, 5, 1), (2, 5, 5), other):
            self.refused("whole", (word, wrong, paper, other, kept))
        self.refused("whole", (word, other, kept, row, paper))
        self.refused("whole", PAPER, web=line(5))
        self.refused("whole", paper_by_hand(full(4), (0, 1)), web=full(5))
        turned = renumbered(line(4), (1, 0, 2, 3))
        self.refused("whole", (word, row_of(line(4)), count_paper(turned), (1, 1), count_paper(line(2))), line(4), (0, 1))

    def test_kept(self):
        word, row, paper, other, kept = PAPER
        for wrong in ODD_THINGS + (paper, kept[:-1], list(kept), kept + paper, count_paper(bare(3)), (kept,)):
            self.refused("kept", (word, row, paper, other, wrong))
        for wrong in ((1, 3), (1,), (1, 2, 1), (3, 2), row):
            self.refused("kept", (word, row, paper, wrong, kept))
        # Of the web without the tie, or without other places, it is none.
        self.refused("kept", paper_by_hand(line(5), (0, 1)), web=line(5), tie=(1, 2), fraction=(1, 4))
        self.refused("kept", (word, row, paper, row, paper))

    def test_share(self):
        for fraction in ((0, 1), (1, 1), (2, 11), (4, 11), (-3, 11), (3, 10), (8, 11), (11, 3), (10 ** 19, 3)):
            self.refused("share", PAPER, fraction=fraction)

    def test_order_of_the_words(self):
        word, row, paper, other, kept = PAPER
        self.refused("shape", (word, row, None, (), None), fraction=(0, 1))
        self.refused("whole", (word, row, None, other, None), fraction=(0, 1))
        self.refused("kept", (word, row, paper, other, None), fraction=(0, 1))
        self.refused("share", PAPER, fraction=(0, 1))

    def test_what_is_let_by_is_so(self):
        """Papers put together of those of several webs are let by only for the tie's share."""
        source = random.Random(332)
        webs = [web for web in some_webs(most=4, each=2, seed=333) if web[1]]
        let_by = 0
        for again in range(3000):
            one, other, web = [source.choice(webs) for k in range(3)]
            tie = source.choice(web[1])
            first, second = paper_by_hand(one, one[1][0]), paper_by_hand(other, other[1][-1])
            try:
                lets_share(web, tie, share_through(one, one[1][0]), first[:3] + second[3:])
            except ValueError:
                continue
            let_by += 1
            self.assertEqual(share_through(web, tie), share_through(one, one[1][0]))
        self.assertGreater(let_by, 3)

    def test_nothing_is_changed(self):
        assert_unchanged(self, lets_share, WEB, TIE, SHARE, PAPER)
        assert_unchanged(self, lets_share, WEB, TIE, SHARE, list(PAPER))
        assert_unchanged(self, lets_share, WEB, TIE, SHARE, PAPER[:2] + ([PAPER[2]],) + PAPER[3:])
        assert_unchanged(self, lets_share, WEB, TIE, SHARE, PAPER[:4] + ([[1], [2]],))


if __name__ == "__main__":
    unittest.main()
