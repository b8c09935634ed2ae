"""Rows above or not [20]; [2] and [3] for them."""

import itertools
import random
import unittest

from netfinder.above import above
from tests.asking import asked, in_good_time
from tests.reckoning import GREAT, added, chance_rows, dot, is_row, small_rows, whole


class TestAbove(unittest.TestCase):
    def borne_out(self, rows, width):
        # What is borne out shuts the other answer out, so no more need be reckoned.
        with in_good_time(60):
            answer = asked(self, above, rows, width)
        self.assertIsInstance(answer, tuple)
        if answer[0] == "row":
            kind, other = answer
            self.assertTrue(is_row(other, width), other)
            self.assertTrue(all(dot(other, row) >= 1 for row in rows))
        else:
            kind, numbers = answer
            self.assertEqual(kind, "sum")
            self.assertIsInstance(numbers, list)
            self.assertEqual(len(numbers), len(rows))
            self.assertTrue(all(whole(number) and number >= 0 for number in numbers), numbers)
            self.assertTrue(any(numbers))
            self.assertEqual(added(rows, numbers, width), (0,) * width)
        return answer

    def told(self, kind, rows, width):
        with self.subTest(rows=rows):
            self.assertEqual(self.borne_out(rows, width)[0], kind)

    def test_no_rows(self):
        for width in range(8):
            self.told("row", [], width)

    def test_width_nought(self):
        self.told("row", [], 0)
        self.told("sum", [()], 0)
        self.told("sum", [(), (), ()], 0)

    def test_a_row_of_nought_alone(self):
        for width in range(1, 7):
            self.told("sum", [(0,) * width], width)
        self.told("sum", [(1, 2), (0, 0), (3, 4)], 2)
        self.told("sum", [(0, 0), (1, 2)], 2)
        self.told("sum", [(0, 0), (0, 0)], 2)

    def test_width_one(self):
        self.told("row", [(1,)], 1)
        self.told("row", [(-3,)], 1)
        self.told("row", [(2,), (5,), (1,)], 1)
        self.told("row", [(-2,), (-5,)], 1)
        self.told("sum", [(2,), (-5,)], 1)
        self.told("sum", [(-2,), (-5,), (1,)], 1)

    def test_alike_rows_and_rows_against_one_another(self):
        self.told("row", [(1, -2, 3)] * 5, 3)
        self.told("sum", [(1, -2, 3), (-1, 2, -3)], 3)
        self.told("sum", [(1, -2, 3), (7, 1, 1), (-2, 4, -6)], 3)

    def test_rows_that_lie_just_within_one_half(self):
        self.told("row", [(1, 0), (-1, 1)], 2)
        self.told("row", [(100, 1), (-100, 1)], 2)
        self.told("row", [(100, -1), (-99, 1)], 2)
        self.told("sum", [(100, -1), (-100, 1)], 2)
        self.told("sum", [(1, 0), (-1, 1), (0, -1)], 2)
        self.told("row", [(1, 0), (-1, 1), (1, 1)], 2)

    def test_a_sum_of_few_among_many(self):
        rows = [(1, 0, 0), (0, 1, 0), (0, 0, 1), (1, 1, 0), (-1, -1, 0), (5, 5, 5)]
        for order in itertools.permutations(rows):
            self.borne_out(list(order), 3)
            self.assertEqual(above(list(order), 3)[0], "sum")

    def test_the_rows_in_any_order(self):
        rows = [(3, -1, 0), (-2, 1, 1), (0, -1, 4), (1, 1, -1), (1, 0, 2)]
        kinds = [self.borne_out(list(order), 3)[0] for order in itertools.permutations(rows)]
        self.assertEqual(len(set(kinds)), 1)

    def test_small_rows(self):
        kinds = {"row": 0, "sum": 0}
        for rows, width in small_rows():
            kinds[self.borne_out(rows, width)[0]] += 1
        self.assertGreater(min(kinds.values()), 100)

    def test_rows_of_many_forms(self):
        kinds = {"row": 0, "sum": 0}
        for rows, width in chance_rows():
            kinds[self.borne_out(rows, width)[0]] += 1
        self.assertGreater(min(kinds.values()), 100)

    def test_twelve_rows_of_width_six(self):
        signs = list(itertools.product((-1, 1), repeat=6))
        ends = [tuple(sign if at == place else 0 for at in range(6)) for place in range(6) for sign in (1, -1)]
        self.told("sum", ends, 6)
        for turn in signs[::9]:
            self.told("row", [tuple(number * sign for number in row) for row, sign in zip(ends[::2], turn)] * 2, 6)
        # Each row takes the next one up more than the last: the rows lie within one half, if barely.
        steep = [tuple(10 if at == place else -1 if at == place + 1 else 0 for at in range(6)) for place in range(6)]
        self.told("row", steep + [row[::-1] for row in steep], 6)
        turns = [(1, -2, 0, 0, 0, 0)[-place:] + (1, -2, 0, 0, 0, 0)[:-place] for place in range(1, 6)]
        ring = [(1, -2, 0, 0, 0, 0)] + turns
        self.told("row", ring, 6)
        self.told("sum", ring + [(1, 1, 1, 1, 1, 1)], 6)
        self.told("sum", ring + [(2, 1, 1, 1, 1, 1)] * 6, 6)

    def test_rows_that_make_many_steps(self):
        # Cubes tilted more and more, on which some ways of choosing go from corner to corner.
        for tilt in (2, 3, 5, 10**9):
            rows = []
            for place in range(6):
                lean = tuple(tilt ** (place - at) if at < place else 0 for at in range(place))
                rows.append(lean + (1,) + (0,) * (5 - place))
                rows.append(tuple(-2 * number for number in lean) + (1,) + (0,) * (5 - place))
            self.told("row", rows, 6)
            self.told("row", rows[::-1], 6)
            self.told("sum", rows[1:] + [(0, 0, 0, 0, 0, -1)], 6)

    def test_rows_around_which_worse_choices_go_for_ever(self):
        self.told("row", [(3, 3, -2), (2, -2, -1), (3, -1, 0), (2, 3, -2), (2, -2, 0), (3, 1, 0), (0, 0, 3)], 3)
        rows = [(3, 1, -2), (1, 2, -1), (3, 1, -3), (1, -1, 0), (1, 3, 3), (1, 1, 3), (0, -2, 3), (2, 3, 2)]
        self.told("row", rows + [(3, -1, -1), (3, 2, 1)], 3)
        rows = [(0, 3, 3), (3, 0, 2), (2, 1, 1), (1, 0, 3), (-1, 2, 3), (-3, 2, 3), (2, 3, 2), (0, -1, 3), (1, 1, 2)]
        self.told("row", rows, 3)

    def test_numbers_of_sixty_figures(self):
        self.told("row", [(GREAT, -GREAT + 1), (-GREAT, GREAT)], 2)
        self.told("sum", [(GREAT, -GREAT), (-GREAT, GREAT)], 2)
        self.told("row", [(GREAT, -1), (-GREAT + 1, 1)], 2)
        chance = random.Random(13)
        for again in range(3):
            rows = [tuple(chance.randint(-GREAT, GREAT) for at in range(6)) for number in range(12)]
            across = tuple(chance.randint(-9, 9) for at in range(6))
            within = [row if dot(row, across) > 0 else tuple(-number for number in row) for row in rows]
            self.told("row", within, 6)
            against = tuple(-number for number in added(within[:5], [1, 2, 3, 4, 5], 6))
            self.told("sum", within[:11] + [against], 6)
            self.borne_out(rows, 6)

    def test_rows_of_less_rank_than_their_width(self):
        self.told("row", [(1, 1, 0, 0, 0, 0), (2, 2, 0, 0, 0, 1), (0, 0, 0, 0, 0, 1)], 6)
        self.told("sum", [(1, 1, 0, 0, 0, 0), (2, 2, 0, 0, 0, 1), (-4, -4, 0, 0, 0, -1)], 6)

    def test_somewhat_more_rows(self):
        rows = [(number, number * number, 1) for number in range(-9, 10)]
        self.told("row", rows, 3)
        self.told("sum", rows + [(0, -1, -40)], 3)


if __name__ == "__main__":
    unittest.main()
