"""The kernel of some rows [18]; [2] and [3] for it."""

import random
import unittest

from netfinder.kernels import kernel
from tests.asking import asked
from tests.reckoning import GREAT, added, chance_rows, dot, is_row, rank, small_rows


class TestKernel(unittest.TestCase):
    def borne_out(self, rows, width):
        answer = asked(self, kernel, rows, width)
        self.assertIsInstance(answer, list)
        for row in answer:
            self.assertTrue(is_row(row, width), row)
            self.assertEqual([dot(row, other) for other in rows], [0] * len(rows))
        self.assertEqual(len(answer), width - rank(rows))
        self.assertEqual(rank(answer), len(answer))
        return answer

    def test_no_rows(self):
        for width in range(8):
            self.assertEqual(len(self.borne_out([], width)), width)

    def test_rows_of_nought_alone(self):
        for width in range(7):
            for many in (1, 2, 60):
                self.assertEqual(len(self.borne_out([(0,) * width] * many, width)), width)

    def test_width_nought(self):
        self.assertEqual(self.borne_out([], 0), [])
        self.assertEqual(self.borne_out([(), (), ()], 0), [])

    def test_rows_that_leave_nothing(self):
        self.assertEqual(self.borne_out([(2,)], 1), [])
        self.assertEqual(self.borne_out([(1, 2), (3, 4)], 2), [])
        self.assertEqual(self.borne_out([(0, 0, 1), (0, 5, 7), (3, 9, 9)], 3), [])

    def test_one_row(self):
        self.assertIn(self.borne_out([(2, 3)], 2)[0], [(3, -2), (-3, 2)])
        self.borne_out([(0, 3)], 2)
        self.borne_out([(0, 0, 4, -6, 0)], 5)

    def test_rows_that_are_sums_of_others(self):
        self.borne_out([(1, 2, 3), (2, 4, 6), (-1, -2, -3)], 3)
        self.borne_out([(1, 2, 3), (0, 1, 1), (1, 3, 4), (1, 1, 2)], 3)
        self.borne_out([(2, 4), (3, 6)], 2)

    def test_small_rows(self):
        for rows, width in small_rows():
            self.borne_out(rows, width)

    def test_rows_of_many_forms(self):
        for rows, width in chance_rows():
            self.borne_out(rows, width)

    def test_sixty_rows_of_width_six_and_sixty_figures(self):
        chance = random.Random(11)
        for many in range(7):
            some = [tuple(chance.randint(-GREAT, GREAT) for at in range(6)) for number in range(many)]
            bits = [[chance.choice((-1, 0, 1)) for row in some] for number in range(60)]
            rows = [added(some, numbers, 6) for numbers in bits]
            self.assertEqual(len(self.borne_out(rows, 6)), 6 - many)
        alike = [(GREAT, -GREAT, GREAT - 1, 1, 0, 2)] * 60
        self.assertEqual(len(self.borne_out(alike, 6)), 5)
        near = [(GREAT, GREAT), (GREAT, GREAT - 1)]
        self.assertEqual(self.borne_out(near, 2), [])
        fit = [(GREAT, GREAT - 1), (2 * GREAT, 2 * GREAT - 2)]
        self.assertEqual(len(self.borne_out(fit, 2)), 1)

    def test_somewhat_wider(self):
        rows = [tuple((at + 1) ** power for at in range(9)) for power in range(5)]
        self.assertEqual(len(self.borne_out(rows, 9)), 4)


if __name__ == "__main__":
    unittest.main()
