import itertools
import random
import unittest
from fractions import Fraction

from pairtally.pairings import row_of
from pairtally.tops import dent, mean, rises_and_falls, tops, total
from pairtally.weights import weighted_row
from tests.support import assert_truth, assert_unchanged, exact, fraction_of, some_webs


def is_dented(row, k):
    """As [44] has it, of one k."""
    d = len(row) - 1
    return row[k] ** 2 * k * (d - k) < row[k - 1] * row[k + 1] * (k + 1) * (d - k + 1)


def is_rising_then_falling(row):
    """As [44] has it, by all ones ahead and behind."""
    return not any(
        any(one > row[k] for one in row[:k]) and any(one > row[k] for one in row[k + 1:]) for k in range(len(row)))


def some_rows():
    """All short rows of small numbers, and drawn ones of up to forty numbers of up to forty figures."""
    rows = [row for many in range(1, 5) for row in itertools.product(range(4), repeat=many) if row[-1] != 0]
    source = random.Random(311)
    for again in range(300):
        most = source.choice((1, 2, 5, 100, 10 ** 20, 10 ** 40 - 1))
        row = [source.randint(0, most) for k in range(source.randint(1, 40))]
        rows.append((*row[:-1], max(1, row[-1])))
        rows.append(tuple(sorted(rows[-1])))
    return rows


class Tops(unittest.TestCase):
    def test_all_against_the_words(self):
        for row in some_rows():
            self.assertEqual(exact(total(row)), exact(sum(row)))
            weighed = sum(k * number for k, number in enumerate(row))
            self.assertEqual(exact(mean(row)), exact(fraction_of(Fraction(weighed, sum(row)))))
            greatest = [k for k in range(len(row)) if row[k] == max(row)]
            self.assertEqual(exact(tops(row)), exact(tuple(greatest)))
            assert_truth(self, is_rising_then_falling(row), rises_and_falls(row), row)
            dents = [k for k in range(1, len(row) - 1) if is_dented(row, k)]
            self.assertEqual(exact(dent(row)), exact(min(dents, default=None)))

    def test_one_number(self):
        for number in (1, 7, 10 ** 40 - 1):
            row = (number,)
            self.assertEqual(exact((total(row), mean(row), tops(row))), exact((number, (0, 1), (0,))))
            assert_truth(self, True, rises_and_falls(row), row)
            self.assertIsNone(dent(row))

    def test_two_numbers(self):
        self.assertEqual(mean((0, 3)), (1, 1))
        self.assertEqual(mean((2, 1)), (1, 3))
        self.assertEqual(mean((3, 3)), (1, 2))
        self.assertEqual(tops((3, 3)), (0, 1))
        self.assertIsNone(dent((1, 10 ** 39)))

    def test_noughts_amid(self):
        self.assertEqual(tops((0, 0, 5)), (2,))
        assert_truth(self, True, rises_and_falls((0, 0, 5)), "rising")
        assert_truth(self, False, rises_and_falls((1, 0, 1)), "a nought amid")
        assert_truth(self, False, rises_and_falls((2, 1, 1, 2)), "two alike amid")
        assert_truth(self, True, rises_and_falls((1, 2, 2, 1)), "two alike at the top")
        assert_truth(self, True, rises_and_falls((2, 2, 1, 1)), "falling")
        assert_truth(self, False, rises_and_falls((1, 3, 2, 2, 3, 1)), "far apart")
        self.assertEqual(dent((1, 0, 1)), 1)
        self.assertIsNone(dent((0, 0, 5)))

    def test_greatest_several_times(self):
        self.assertEqual(tops((4, 1, 4, 4, 0, 4)), (0, 2, 3, 5))
        self.assertEqual(tops((1,) * 40), tuple(range(40)))

    def test_a_dent_just_by_one(self):
        # At k of 1, d being 2: the square times 1 against the product times 4.
        self.assertIsNone(dent((1, 2, 1)))
        self.assertEqual(dent((5, 9, 5)), 1)
        self.assertIsNone(dent((5, 10, 5)))
        self.assertEqual(dent((5, 19, 19)), 1)
        self.assertIsNone(dent((5, 20, 20)))
        # Choosing numbers have none, and one that is one less has one.
        row = [1, 6, 15, 20, 15, 6, 1]
        self.assertIsNone(dent(tuple(row)))
        for k in range(1, 6):
            less = tuple(row[:k] + [row[k] - 1] + row[k + 1:])
            self.assertEqual(dent(less), k)
        self.assertEqual(dent((1, 6, 14, 20, 14, 6, 1)), 2)
        great = 10 ** 39
        self.assertIsNone(dent((great, 2 * great, great)))
        self.assertEqual(dent((great, 2 * great - 1, great)), 1)

    def test_rows_of_webs(self):
        source = random.Random(312)
        for web in some_webs(each=4, seed=313):
            weights = tuple(source.randint(1, 100) for tie in web[1])
            for row in (row_of(web), weighted_row(web, weights)):
                assert_truth(self, True, rises_and_falls(row), row)
                self.assertIsNone(dent(row))
                highest = tops(row)
                self.assertTrue(len(highest) == 1 or highest == (highest[0], highest[0] + 1))
                for top in highest:
                    self.assertLess(abs(top - Fraction(*mean(row))), 1)

    def test_nothing_is_changed(self):
        for action in (total, mean, tops, rises_and_falls, dent):
            assert_unchanged(self, action, (1, 0, 3, 2))


if __name__ == "__main__":
    unittest.main()
