import unittest

from pairtally.countchecker import lets_count
from pairtally.counting import count_paper
from pairtally.errors import TooMany
from tests.support import (
    assert_no_paper, assert_refused, bare, exact, full, line, ring, row_gone_through, some_webs, star,
)


class Counting(unittest.TestCase):
    def test_told_papers_are_let_by(self):
        for web in some_webs(each=10, seed=31):
            paper = count_paper(web)
            self.assertIs(paper.__class__, tuple)
            row = row_gone_through(web)
            self.assertIs(lets_count(web, row, paper), True)
            more = row[:-1] + (row[-1] + 1,)
            assert_no_paper(self, "last", -1, lets_count, web, more, paper)
            self.assertEqual(exact(count_paper(web)), exact(paper))

    def test_too_many(self):
        for web in (bare(10), line(10), full(10), ring(17), star(400), (10 ** 39, ())):
            assert_refused(self, TooMany, {}, count_paper, web)


if __name__ == "__main__":
    unittest.main()
