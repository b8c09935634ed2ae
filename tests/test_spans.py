"""A row spanned by some rows or not [19]; [2] and [3] for it."""

import itertools
import random
import unittest

from netfinder.spans import spanned
from tests.asking import asked
from tests.reckoning import GREAT, added, chance_rows, dot, is_row, rank, small_rows, whole


class TestSpanned(unittest.TestCase):
    def borne_out(self, rows, row):
        answer = asked(self, spanned, rows, row)
        self.assertIsInstance(answer, tuple)
        if answer[0] == "sum":
            kind, times, numbers = answer
            self.assertTrue(whole(times) and times >= 1, times)
            self.assertIsInstance(numbers, list)
            self.assertTrue(all(whole(number) for number in numbers))
            self.assertEqual(len(numbers), len(rows))
            self.assertEqual(added(rows, numbers, len(row)), tuple(times * number for number in row))
        else:
            kind, other = answer
            self.assertEqual(kind, "row")
            self.assertTrue(is_row(other, len(row)), other)
            self.assertEqual([dot(other, one) for one in rows], [0] * len(rows))
            self.assertNotEqual(dot(other, row), 0)
        self.assertEqual(kind, "sum" if rank(rows + [row]) == rank(rows) else "row")
        return answer

    def test_no_rows(self):
        self.assertEqual(self.borne_out([], (0, 0)), ("sum", 1, []))
        self.assertEqual(self.borne_out([], (0, 3))[0], "row")
        self.assertEqual(self.borne_out([], (-2,))[0], "row")

    def test_width_nought(self):
        self.assertEqual(self.borne_out([], ())[0], "sum")
        self.assertEqual(self.borne_out([(), ()], ())[0], "sum")

    def test_a_row_of_nought_alone(self):
        for rows in ([(1, 2)], [(1, 2), (3, 4)], [(0, 0)], [(0, 0), (0, 0)], [(1, 1), (2, 2)]):
            self.assertEqual(self.borne_out(rows, (0, 0))[0], "sum")

    def test_rows_of_nought_alone(self):
        self.assertEqual(self.borne_out([(0, 0)] * 3, (1, 0))[0], "row")

    def test_alike_rows(self):
        self.assertEqual(self.borne_out([(1, 2)] * 4, (3, 6))[0], "sum")
        self.assertEqual(self.borne_out([(1, 2)] * 4, (3, 5))[0], "row")
        self.assertEqual(self.borne_out([(1, 2), (-1, -2)], (1, 2))[0], "sum")

    def test_the_row_itself(self):
        self.assertEqual(self.borne_out([(5, 7), (1, 0)], (5, 7))[0], "sum")
        self.assertEqual(self.borne_out([(1, 0), (5, 7)], (5, 7))[0], "sum")

    def test_below_nought(self):
        self.assertEqual(self.borne_out([(2, 0)], (-6, 0))[0], "sum")
        self.assertEqual(self.borne_out([(-2, 0)], (6, 0))[0], "sum")
        self.assertEqual(self.borne_out([(-2, -4)], (-3, -6))[0], "sum")

    def test_rows_of_which_only_a_multiple_is_a_sum(self):
        for rows, row, least in (
            ([(2, 0), (0, 2)], (1, 1), 2),
            ([(3, 3)], (1, 1), 3),
            ([(2, 4), (6, 0)], (1, 1), 12),
            ([(10**59, 0)], (1, 0), 10**59),
        ):
            answer = self.borne_out(rows, row)
            self.assertEqual(answer[0], "sum")
            self.assertEqual(answer[1] % least, 0)

    def test_small_rows(self):
        for rows, width in small_rows():
            for row in itertools.product((-1, 0, 2), repeat=width):
                self.borne_out(rows, row)

    def test_rows_of_many_forms(self):
        chance = random.Random(3)
        for rows, width in chance_rows():
            self.borne_out(rows, tuple(chance.randint(-3, 3) for at in range(width)))
            self.borne_out(rows[1:], rows[0])
            self.borne_out(rows[:2], added(rows[:2], [3, -2][:len(rows)], width))

    def test_sixty_rows_of_sixty_figures(self):
        chance = random.Random(5)
        for many in range(1, 7):
            some = [tuple(chance.randint(-GREAT, GREAT) for at in range(6)) for number in range(many)]
            rows = [some[chance.randrange(many)] for number in range(60 - many)] + some
            self.assertEqual(self.borne_out(rows, added(some, [1] * many, 6))[0], "sum")
            row = tuple(chance.randint(-GREAT, GREAT) for at in range(6))
            self.assertEqual(self.borne_out(rows, row)[0], "sum" if many == 6 else "row")
        near = (GREAT, GREAT - 1)
        self.assertEqual(self.borne_out([(GREAT, GREAT)], near)[0], "row")

    def test_somewhat_more_rows(self):
        rows = [(number, number * number, 1) for number in range(70)]
        self.assertEqual(self.borne_out(rows, (3, 3, 3))[0], "sum")


if __name__ == "__main__":
    unittest.main()
