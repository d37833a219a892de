import unittest

from pairtally.families import family_pair, family_paper
from pairtally.likechecker import lets_like
from pairtally.webs import is_web, parts
from tests.support import assert_no_paper, exact, row_gone_through

EVERY = [("fork", n) for n in range(4, 10)] + [("line", n) for n in range(2, 5)]


def fork_by_hand(n):
    """The ties of FORK, and of one place with the RING of n - 1 behind it."""
    fork = [(k, k + 1) for k in range(n - 2)] + [(1, n - 1)]
    ring = [(k, k + 1) for k in range(1, n - 1)] + [(1, n - 1)]
    return (n, tuple(sorted(fork))), (n, tuple(sorted(ring)))


def line_by_hand(n):
    """The ties of the LINE of 2 n + 1, and of that of n with the RING of n + 1 behind it."""
    line = [(k, k + 1) for k in range(2 * n)]
    both = [(k, k + 1) for k in range(n - 1)] + [(k, k + 1) for k in range(n, 2 * n)] + [(n, 2 * n)]
    return (2 * n + 1, tuple(line)), (2 * n + 1, tuple(sorted(both)))


class Families(unittest.TestCase):
    def test_ties(self):
        for word, n in EVERY:
            by_hand = fork_by_hand(n) if word == "fork" else line_by_hand(n)
            told = family_pair(word, n)
            self.assertEqual(exact(told), exact(by_hand))
            self.assertTrue(is_web(told[0]) and is_web(told[1]))

    def test_some_written_out(self):
        self.assertEqual(family_pair("fork", 4), ((4, ((0, 1), (1, 2), (1, 3))), (4, ((1, 2), (1, 3), (2, 3)))))
        self.assertEqual(
            family_pair("line", 2), ((5, ((0, 1), (1, 2), (2, 3), (3, 4))), (5, ((0, 1), (2, 3), (2, 4), (3, 4)))))

    def test_like_rows_of_unlike_webs(self):
        for word, n in EVERY:
            one, other = family_pair(word, n)
            self.assertEqual(row_gone_through(one), row_gone_through(other))
            self.assertEqual((len(parts(one)), len(parts(other))), (1, 2))

    def test_papers_are_let_by(self):
        for word, n in EVERY:
            one, other = family_pair(word, n)
            paper = family_paper(word, n)
            self.assertIs(paper.__class__, tuple)
            self.assertIs(lets_like(one, other, paper), True)
            self.assertNotIn("rows", [entry[2][0] for entry in paper])
            assert_no_paper(self, "last", -1, lets_like, other, one, paper)
            self.assertEqual(exact(family_paper(word, n)), exact(paper))


if __name__ == "__main__":
    unittest.main()
