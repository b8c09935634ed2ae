"""Rows, their products and sums [17]; [2] and [3] for them."""

import unittest

from netfinder.rows import product, summed
from tests.asking import asked

GREAT = 10**60 - 1


class TestProduct(unittest.TestCase):
    def told(self, one, other, expected):
        with self.subTest(one=one, other=other):
            self.assertEqual(asked(self, product, one, other), expected)
            self.assertEqual(asked(self, product, other, one), expected)

    def test_width_nought_and_one(self):
        self.told((), (), 0)
        self.told((3,), (4,), 12)
        self.told((0,), (4,), 0)
        self.told((-3,), (4,), -12)

    def test_width_six(self):
        self.told((1, 2, 3, 4, 5, 6), (6, 5, 4, 3, 2, 1), 56)
        self.told((1, 0, 0, 0, 0, 2), (3, 9, 9, 9, 9, 5), 13)
        self.told((1, -1, 1, -1, 1, -1), (1, 1, 1, 1, 1, 1), 0)
        self.told((-2, -3, 0, 0, 0, 0), (-5, 7, 0, 0, 0, 0), -11)

    def test_great_numbers(self):
        self.told((GREAT, 1), (GREAT, -1), GREAT * GREAT - 1)
        self.told((GREAT, GREAT), (1, -1), 0)
        self.told((-GREAT,) * 6, (GREAT,) * 6, -6 * GREAT * GREAT)


class TestSummed(unittest.TestCase):
    def told(self, rows, numbers, width, expected):
        with self.subTest(rows=rows, numbers=numbers, width=width):
            answer = asked(self, summed, rows, numbers, width)
            self.assertEqual(answer, expected)
            self.assertIsInstance(answer, tuple)

    def test_no_rows(self):
        self.told([], [], 0, ())
        self.told([], [], 1, (0,))
        self.told([], [], 6, (0, 0, 0, 0, 0, 0))

    def test_width_nought(self):
        self.told([(), ()], [4, 5], 0, ())

    def test_width_one(self):
        self.told([(3,)], [4], 1, (12,))
        self.told([(3,), (5,), (-1,)], [1, 2, 3], 1, (10,))

    def test_width_six(self):
        self.told([(1, 2, 3, 4, 5, 6)], [1], 6, (1, 2, 3, 4, 5, 6))
        self.told([(1, 2, 3, 4, 5, 6), (0, 0, 1, 0, 0, -1)], [2, -3], 6, (2, 4, 3, 8, 10, 15))

    def test_numbers_of_nought_and_below(self):
        self.told([(1, 2), (3, 4)], [0, 0], 2, (0, 0))
        self.told([(1, 2), (3, 4)], [0, 1], 2, (3, 4))
        self.told([(1, 2), (3, 4)], [-1, 0], 2, (-1, -2))
        self.told([(1, 2), (1, 2)], [5, -5], 2, (0, 0))

    def test_great_numbers(self):
        self.told([(GREAT, -GREAT), (1, GREAT)], [GREAT, 1], 2, (GREAT * GREAT + 1, -GREAT * GREAT + GREAT))

    def test_sixty_rows(self):
        rows = [(1, number) for number in range(60)]
        self.told(rows, [2] * 60, 2, (120, 3540))


if __name__ == "__main__":
    unittest.main()
