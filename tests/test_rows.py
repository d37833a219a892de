import random
import unittest

from pairtally.rows import is_row, row_on, row_product, row_sum
from tests.support import ODD_THINGS, assert_truth, assert_unchanged, exact, kind_bends

GREAT = 10 ** 30 + 7


def some_rows():
    source = random.Random(8)
    rows = [(1,), (5,), (0, 1), (0, 0, 3), (1, 0, 2), (1, 1), (1, 4, 2), (GREAT,), (1, GREAT, 0, GREAT)]
    for length in range(1, 9):
        rows.append(tuple(source.randrange(0, GREAT) for k in range(length)) + (1,))
    return rows


class Rows(unittest.TestCase):
    def test_rows_by_kind(self):
        for row in some_rows() + [(10 ** 39,)]:
            assert_truth(self, True, is_row(row), row)
            for bent in kind_bends(row):
                assert_truth(self, False, is_row(bent), bent)

    def test_no_rows(self):
        for thing in [(), (0,), (1, 0), (1, 2, 0), (-1,), (-1, 1), (1, -1), (1, -1, 1), (True,), (1, True), (False, 1),
                      [1], [], (1, [1]), ((1,),), (1, None), (1, "1"), "1", 1, None]:
            assert_truth(self, False, is_row(thing), thing)
        for thing in ODD_THINGS:
            assert_truth(self, exact(thing) in ("(1,)", "(0, 1)", "(1, 2, 3)"), is_row(thing), thing)

    def test_sum(self):
        for one in some_rows():
            for other in some_rows():
                longest = max(len(one), len(other))
                padded = [row + (0,) * (longest - len(row)) for row in (one, other)]
                expected = tuple(a + b for a, b in zip(*padded))
                self.assertEqual(exact(row_sum(one, other)), exact(expected))
        self.assertEqual(row_sum((1, 2), (1, 1, 5)), (2, 3, 5))

    def test_on(self):
        for row in some_rows():
            self.assertEqual(exact(row_on(row)), exact((0,) + row))

    def test_product(self):
        for one in some_rows():
            for other in some_rows():
                told = row_product(one, other)
                self.assertIs(told.__class__, tuple)
                self.assertEqual(len(told), len(one) + len(other) - 1)
                for k in range(len(told)):
                    pairs = [(i, k - i) for i in range(len(one)) if 0 <= k - i < len(other)]
                    self.assertEqual(told[k], sum(one[i] * other[j] for i, j in pairs))
                self.assertTrue(is_row(told))
        self.assertEqual(row_product((1, 2), (1, 3, 1)), (1, 5, 7, 2))

    def test_nothing_is_changed(self):
        assert_unchanged(self, is_row, [1, [2]])
        assert_unchanged(self, is_row, (1, [2]))
        assert_unchanged(self, row_sum, (1, 2), (1, 0, 4))
        assert_unchanged(self, row_product, (1, 2), (1, 0, 4))


if __name__ == "__main__":
    unittest.main()
