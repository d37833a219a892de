import unittest

from pairtally.errors import TooMany
from pairtally.polys import is_poly
from pairtally.signed import signed_of, signed_row
from tests.support import assert_refused, bare, exact, full, line, ring, row_gone_through, some_webs


def expected_poly(many, row):
    numbers = {many - 2 * k: number * (-1) ** k for k, number in enumerate(row)}
    return tuple(numbers.get(at, 0) for at in range(many + 1))


class Signed(unittest.TestCase):
    def test_of_rows(self):
        self.assertEqual(signed_row(0, (1,)), (1,))
        self.assertEqual(signed_row(1, (1,)), (0, 1))
        self.assertEqual(signed_row(2, (1, 1)), (-1, 0, 1))
        self.assertEqual(signed_row(4, (1, 3, 1)), (1, 0, -3, 0, 1))
        self.assertEqual(signed_row(5, (1, 3, 1)), (0, 1, 0, -3, 0, 1))
        self.assertEqual(signed_row(6, (1, 15, 45, 15)), (-15, 0, 45, 0, -15, 0, 1))
        for many in range(61):
            for row in [(1,), (1, many), (1, 10 ** 30, 7), (1, 2, 3, 4, 5)]:
                if 2 * (len(row) - 1) <= many and row[-1]:
                    self.assertEqual(exact(signed_row(many, row)), exact(expected_poly(many, row)))

    def test_of_webs(self):
        for web in some_webs(seed=71):
            told = signed_of(web)
            self.assertEqual(exact(told), exact(expected_poly(web[0], row_gone_through(web))))
            self.assertTrue(is_poly(told))
        self.assertEqual(signed_of(bare(3)), (0, 0, 0, 1))
        self.assertEqual(signed_of(full(4)), (3, 0, -6, 0, 1))

    def test_great_webs(self):
        self.assertEqual(len(signed_of(line(400))), 401)
        assert_refused(self, TooMany, {}, signed_of, ring(17))


if __name__ == "__main__":
    unittest.main()
