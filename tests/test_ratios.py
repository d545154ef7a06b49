"""Ratios, their sums, and the equations that they solve."""

import unittest
from fractions import Fraction
from random import Random

from groupdeeds.ratios import is_ratio, ratio_of, ratio_sum, solved
from tests.helpers import ANY_VALUES, Case
from tests.arguments import as_fraction, as_ratio


class Ratios(Case):
    def test_is_ratio(self):
        for good in ((0, 1), (1, 1), (-1, 1), (3, 2), (-3, 2), (10 ** 40, 10 ** 40 + 1)):
            self.assertIs(is_ratio(good), True)
        for wrong in ((0, 2), (0, -1), (1, 0), (0, 0), (2, 4), (1, -2), (True, 1), (1, True), [1, 2], (1,), (1, 2, 3),
                      ("1", 2), (1, None), "12", None, {}, (1, (2,))):
            self.assertIs(is_ratio(wrong), False, wrong)
        for value in ANY_VALUES:
            self.assertIn(is_ratio(value), (True, False), value)

    def test_lowest_terms(self):
        for top in range(-12, 13):
            for bottom in list(range(-12, 0)) + list(range(1, 13)):
                self.assertEqual(as_fraction(self, ratio_of(top, bottom)), Fraction(top, bottom))

    def test_sums(self):
        mixed = Random(1)
        for many in range(9):
            pairs = [(mixed.randint(-30, 30), mixed.randint(1, 30)) for _ in range(many)]
            want = sum((Fraction(*pair) for pair in pairs), Fraction(0))
            self.assertEqual(as_fraction(self, ratio_sum(pairs)), want)

    def test_equations(self):
        self.assertEqual(solved([[2, 3]]), [(3, 2)])
        self.assertEqual(solved([[0, -2, 4], [3, 1, 1]]), [(1, 1), (-2, 1)])
        mixed = Random(2)
        for many in range(1, 8):
            # Ones below a line of zeros and twos: there is one solution only.
            rows = [[1 if at < row else 2 * (at == row) for at in range(many)] for row in range(many)]
            wanted = [Fraction(mixed.randint(-9, 9), mixed.randint(1, 9)) for _ in range(many)]
            sums = [sum(factor * one for factor, one in zip(row, wanted)) * 2520 for row in rows]
            told = [[factor * 2520 for factor in row] + [int(total)] for row, total in zip(rows, sums)]
            mixed.shuffle(told)
            self.assertEqual(solved(told), [as_ratio(one) for one in wanted])


if __name__ == "__main__":
    unittest.main()
