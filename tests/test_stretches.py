"""Places that let a chart go [21], stretches, their beads and places [22], NoStretch [23]; [2] and [3] for them."""

import itertools
import unittest

from netfinder.charts import has_move, states_of
from netfinder.charttexts import read_chart
from netfinder.errors import NoStretch
from netfinder.stretches import beads_of, is_stretch, lets_go, place_of
from netfinder.ways import counts_of, rings_of
from tests.asking import asked, refused
from tests.reckoning import dot, whole
from tests.test_ways import TWELVE

GREAT = 10**60 - 1

TEXTS = (
    "moves a b; 0 a 1; 1 b 0",
    "moves a; 0 a 1; 1 a 2; 2 a 3",
    "moves a; 0 a 0; 0 a 1",
    "moves a b; 0 a 1; 0 b 1; 1 b 2",
    "moves a b; 0 a 2; 0 b 1; 1 a 3; 2 b 3; 3 a 3",
    "moves a b; 0 a 1; 0 a 2; 1 b 2",
    "moves a b; 0 a 1; 1 a 2; 1 b 0; 2 b 1",
    "moves a b; 0 a 2; 2 b 1; 1 b 3; 3 a 0",
    "moves a b; 0 a 1; 1 a 0",
)


def small_charts():
    return [read_chart(text) for text in TEXTS] + [((), []), (("a",), []), (("a", "b"), [])]


def small_places(moves, most):
    for numbers in itertools.product(range(most), repeat=1 + 2 * len(moves)):
        yield (numbers[0], numbers[1:1 + len(moves)], numbers[1 + len(moves):])


def beads_that_fit(chart, place):
    """The beads by states, spread along arcs from the state 0; None where they don't fit."""
    beads = {0: place[0]}
    left = list(chart[1])
    while left:
        first, move, second = next(arc for arc in left if arc[0] in beads)
        left.remove((first, move, second))
        at = chart[0].index(move)
        coming = beads[first] - place[1][at] + place[2][at]
        if beads[first] < place[1][at] or beads.setdefault(second, coming) != coming:
            return None
    return [beads[state] for state in range(states_of(chart))]


class TestLetsGo(unittest.TestCase):
    def told(self, text, place, expected):
        with self.subTest(text=text, place=place):
            self.assertIs(asked(self, lets_go, read_chart(text), place), expected)

    def test_as_many_beads_as_are_taken_and_one_fewer(self):
        self.told("moves a; 0 a 1", (2, (2,), (0,)), True)
        self.told("moves a; 0 a 1", (1, (2,), (0,)), False)
        self.told("moves a; 0 a 1", (0, (0,), (0,)), True)
        self.told("moves a; 0 a 1; 1 a 2", (5, (3,), (1,)), True)
        self.told("moves a; 0 a 1; 1 a 2", (4, (3,), (1,)), False)
        self.told("moves a b; 0 a 1; 1 b 2", (1, (1, 3), (3, 0)), True)
        self.told("moves a b; 0 a 1; 1 b 2", (1, (1, 4), (3, 0)), False)

    def test_at_each_state_that_has_the_move(self):
        chart = "moves a b; 0 a 1; 0 b 0; 1 b 1"
        self.told(chart, (3, (1, 2), (0, 2)), True)
        self.told(chart, (3, (1, 3), (0, 3)), False)
        self.told(chart, (2, (0, 3), (1, 3)), False)

    def test_beads_around_a_ring(self):
        self.told("moves a b; 0 a 1; 1 b 0", (1, (1, 0), (0, 1)), True)
        self.told("moves a b; 0 a 1; 1 b 0", (1, (1, 0), (0, 2)), False)
        self.told("moves a b; 0 a 1; 1 b 0", (1, (1, 0), (0, 0)), False)
        self.told("moves a b; 0 a 1; 1 b 0", (0, (0, 0), (0, 0)), True)
        self.told("moves a; 0 a 0", (1, (1,), (1,)), True)
        self.told("moves a; 0 a 0", (1, (0,), (1,)), False)
        self.told("moves a; 0 a 0", (2, (2,), (1,)), False)
        self.told("moves a b; 0 a 1; 0 b 1", (2, (2, 1), (1, 0)), True)
        self.told("moves a b; 0 a 1; 0 b 1", (2, (2, 1), (1, 1)), False)

    def test_two_arcs_by_one_move(self):
        self.told("moves a b; 0 a 1; 0 a 2; 1 b 2", (0, (0, 0), (3, 0)), True)
        self.told("moves a b; 0 a 1; 0 a 2; 1 b 2", (0, (0, 0), (3, 1)), False)

    def test_moves_without_arcs(self):
        self.told("moves a b; 0 a 1", (1, (1, 99), (0, 0)), True)
        self.told("moves a b; 0 a 1", (1, (1, 0), (0, 99)), True)
        self.told("moves a", (0, (5,), (7,)), True)
        self.told("moves", (0, (), ()), True)
        self.told("moves", (4, (), ()), True)

    def test_a_number_below_nought_along_an_arc(self):
        # By a comes 1 - 2, below 0, and by b from there 0 on again.
        self.told("moves a b; 0 a 1; 1 b 2", (1, (2, 0), (0, 5)), False)
        self.told("moves a b; 0 a 1; 1 b 0", (1, (2, 0), (0, 2)), False)
        self.told("moves a; 0 a 1; 1 a 2", (1, (1,), (0,)), False)
        self.told("moves a b; 0 a 1; 1 b 2", (2, (2, 0), (0, 5)), True)

    def test_great_numbers(self):
        self.told("moves a b; 0 a 1; 1 b 0", (GREAT, (GREAT, 1), (1, GREAT)), True)
        self.told("moves a b; 0 a 1; 1 b 0", (GREAT, (GREAT, 1), (1, GREAT - 1)), False)
        self.told("moves a b; 0 a 1; 1 b 0", (GREAT - 1, (GREAT, 1), (1, GREAT)), False)

    def test_many_places(self):
        told = {True: 0, False: 0}
        for chart in small_charts():
            for place in small_places(chart[0], 3 if len(chart[0]) == 2 else 6):
                expected = beads_that_fit(chart, place) is not None
                self.assertIs(lets_go(chart, place), expected, (chart, place))
                told[expected] += 1
        self.assertGreater(min(told.values()), 100)


class TestIsStretch(unittest.TestCase):
    def told(self, text, row, expected):
        with self.subTest(text=text, row=row):
            self.assertIs(asked(self, is_stretch, read_chart(text), row), expected)

    def test_rows_by_their_product_with_the_rings(self):
        self.told("moves a b; 0 a 1; 1 b 0", (1, -1), True)
        self.told("moves a b; 0 a 1; 1 b 0", (-7, 7), True)
        self.told("moves a b; 0 a 1; 1 b 0", (0, 0), True)
        self.told("moves a b; 0 a 1; 1 b 0", (1, 0), False)
        self.told("moves a b; 0 a 1; 1 b 0", (1, -2), False)
        self.told("moves a b; 0 a 1; 0 b 1", (4, 4), True)
        self.told("moves a b; 0 a 1; 0 b 1", (4, 5), False)
        self.told("moves a; 0 a 0", (0,), True)
        self.told("moves a; 0 a 0", (1,), False)

    def test_each_ring_counts(self):
        chart = "moves a b c; 0 a 1; 1 b 0; 1 c 0"
        self.told(chart, (2, -2, -2), True)
        self.told(chart, (2, -2, -1), False)
        self.told(chart, (2, -1, -2), False)

    def test_without_rings_any_row(self):
        self.told("moves a b; 0 a 1; 1 b 2", (5, -9), True)
        self.told("moves", (), True)

    def test_moves_without_arcs(self):
        self.told("moves a", (0,), True)
        self.told("moves a", (1,), False)
        self.told("moves a", (-1,), False)
        self.told("moves a b; 0 a 1", (5, 0), True)
        self.told("moves a b; 0 a 1", (5, 1), False)
        self.told("moves a b; 0 b 1", (-1, 1), False)

    def test_great_numbers(self):
        self.told("moves a b; 0 a 1; 1 b 0", (GREAT, -GREAT), True)
        self.told("moves a b; 0 a 1; 1 b 0", (GREAT, 1 - GREAT), False)


class TestBeadsAndPlace(unittest.TestCase):
    def told(self, text, row, beads, place):
        with self.subTest(text=text, row=row):
            chart = read_chart(text)
            answer = asked(self, beads_of, chart, row)
            self.assertEqual(answer, beads)
            self.assertIsInstance(answer, list)
            answer = asked(self, place_of, chart, row)
            self.assertEqual(answer, place)
            self.assertEqual([type(one) for one in answer], [int, tuple, tuple])
            self.assertIsInstance(answer, tuple)
            self.assertIs(lets_go(chart, answer), True)

    def test_the_least_beads_are_nought(self):
        self.told("moves a; 0 a 1; 1 a 2", (1,), [0, 1, 2], (0, (0,), (1,)))
        self.told("moves a; 0 a 1; 1 a 2", (-1,), [2, 1, 0], (2, (1,), (0,)))
        self.told("moves a; 0 a 1; 1 a 2", (-3,), [6, 3, 0], (6, (3,), (0,)))
        self.told("moves a; 0 a 1; 1 a 2", (0,), [0, 0, 0], (0, (0,), (0,)))

    def test_beads_by_states_not_as_they_are_met(self):
        self.told("moves a; 0 a 2; 2 a 1", (1,), [0, 2, 1], (0, (0,), (1,)))
        self.told("moves a b; 0 a 2; 2 b 1; 1 b 3", (-1, 2), [1, 2, 0, 4], (1, (1, 0), (0, 2)))

    def test_a_ring(self):
        self.told("moves a b; 0 a 1; 1 b 0", (1, -1), [0, 1], (0, (0, 1), (1, 0)))
        self.told("moves a b; 0 a 1; 1 b 0", (-2, 2), [2, 0], (2, (2, 0), (0, 2)))

    def test_takes_are_the_least_beads_of_states_that_have_the_move(self):
        # The move b goes at the states 1 and 3, which have 2 and 6 beads.
        self.told(
            "moves a b; 0 a 1; 1 a 2; 1 b 4; 2 a 3; 3 b 5", (2, -1), [0, 2, 4, 6, 1, 5], (0, (0, 2), (2, 1)),
        )
        self.told("moves a b; 0 a 0; 0 b 1; 1 a 1", (0, 3), [0, 3], (0, (0, 0), (0, 3)))
        self.told("moves a b; 0 a 0; 0 b 1; 1 a 1", (0, -3), [3, 0], (3, (0, 3), (0, 0)))

    def test_moves_without_arcs_take_one_more_than_the_greatest(self):
        self.told("moves a", (0,), [0], (0, (1,), (1,)))
        self.told("moves a b", (0, 0), [0], (0, (1, 1), (1, 1)))
        self.told("moves a b; 0 a 1; 1 a 2", (2, 0), [0, 2, 4], (0, (0, 5), (2, 5)))
        self.told("moves a b; 0 b 1", (0, -4), [4, 0], (4, (5, 4), (5, 0)))

    def test_without_moves(self):
        self.told("moves", (), [0], (0, (), ()))

    def test_great_numbers(self):
        self.told("moves a b; 0 a 1; 1 b 0", (GREAT, -GREAT), [0, GREAT], (0, (0, GREAT), (GREAT, 0)))

    def test_a_row_that_is_no_stretch_is_refused(self):
        for text, row in (
            ("moves a b; 0 a 1; 1 b 0", (1, 0)),
            ("moves a b; 0 a 1; 1 b 0", (1, 1)),
            ("moves a; 0 a 0", (-1,)),
            ("moves a", (1,)),
            ("moves a", (-1,)),
            ("moves a b; 0 a 1", (5, 1)),
            ("moves a b; 0 a 1; 0 b 1", (GREAT, GREAT - 1)),
        ):
            with self.subTest(text=text, row=row):
                refused(self, NoStretch, beads_of, read_chart(text), row)
                refused(self, NoStretch, place_of, read_chart(text), row)

    def test_many_rows(self):
        told = {True: 0, False: 0}
        for chart in small_charts() + [TWELVE]:
            width = len(chart[0])
            for row in itertools.product((-2, -1, 0, 1, 2) if width < 3 else (-1, 0, 1), repeat=width):
                fits = all(dot(row, ring) == 0 for ring in rings_of(chart))
                bare = [at for at, move in enumerate(chart[0]) if all(arc[1] != move for arc in chart[1])]
                fits = fits and all(row[at] == 0 for at in bare)
                self.assertIs(is_stretch(chart, row), fits, (chart, row))
                told[fits] += 1
                if fits:
                    self.as_told(chart, row, bare)
                else:
                    self.assertRaises(NoStretch, beads_of, chart, row)
                    self.assertRaises(NoStretch, place_of, chart, row)
        self.assertGreater(min(told.values()), 20)

    def as_told(self, chart, row, bare):
        beads = beads_of(chart, row)
        heights = [dot(row, counts) for counts in counts_of(chart)]
        self.assertEqual([one - beads[0] for one in beads], [one - heights[0] for one in heights])
        self.assertEqual(min(beads), 0)
        place = place_of(chart, row)
        self.assertEqual(place[0], beads[0])
        self.assertEqual(tuple(gives - takes for takes, gives in zip(place[1], place[2])), row)
        for at, move in enumerate(chart[0]):
            having = [beads[state] for state in range(len(beads)) if has_move(chart, state, move)]
            self.assertEqual(place[1][at], max(beads) + 1 if at in bare else min(having))
        self.assertTrue(all(whole(number) and number >= 0 for number in place[1] + place[2]))
        self.assertEqual(beads_that_fit(chart, place), beads)
        self.assertIs(lets_go(chart, place), True)


class TestEachPlaceComesOfAStretch(unittest.TestCase):
    def test_what_the_document_says_of_places_that_let_the_chart_go(self):
        met = 0
        for chart in small_charts():
            bare = [all(arc[1] != move for arc in chart[1]) for move in chart[0]]
            for place in small_places(chart[0], 3 if len(chart[0]) == 2 else 6):
                if lets_go(chart, place):
                    row = tuple(0 if no else more - less for no, less, more in zip(bare, place[1], place[2]))
                    self.assertIs(is_stretch(chart, row), True)
                    self.solves_as_much(chart, place, place_of(chart, row))
                    met += 1
        self.assertGreater(met, 100)

    def solves_as_much(self, chart, place, other):
        beads = beads_that_fit(chart, place)
        others = beads_that_fit(chart, other)
        self.assertEqual(len({one - two for one, two in zip(beads, others)}), 1)
        for state, (at, move) in itertools.product(range(len(beads)), enumerate(chart[0])):
            if not has_move(chart, state, move) and beads[state] < place[1][at]:
                self.assertLess(others[state], other[1][at])


if __name__ == "__main__":
    unittest.main()
