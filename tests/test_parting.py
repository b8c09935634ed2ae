"""A place or a paper [25], [26], [27]; papers judged [28]; [2] and [3] for them."""

import itertools
import unittest

from netfinder.cases import cases_of, solves
from netfinder.charts import has_move, states_of
from netfinder.charttexts import read_chart
from netfinder.parting import is_paper, parted
from netfinder.stretches import is_stretch, lets_go, place_of
from netfinder.ways import counts_of, rings_of
from tests.asking import asked
from tests.manycharts import boxes, counter, many_charts
from tests.reckoning import added, whole
from tests.test_stretches import small_places


def sum_holds(chart, case, first, numbers):
    """Whether the one sum of a paper holds, its numbers being of the right lengths."""
    counts = counts_of(chart)
    width = len(chart[0])
    shown = added(rings_of(chart), numbers, width)
    if case[0] == "pair":
        return shown == tuple(first * (one - two) for one, two in zip(counts[case[1]], counts[case[2]]))
    steps = [tuple(one - two for one, two in zip(other, counts[case[1]])) for other in counts]
    return shown == added(steps, first, width)


class TestParted(unittest.TestCase):
    def told(self, text, case, kind):
        with self.subTest(text=text, case=case):
            chart = read_chart(text)
            answer = asked(self, parted, chart, case)
            self.borne_out(chart, case, answer)
            self.assertEqual(answer[0], kind)

    def borne_out(self, chart, case, answer):
        self.assertIsInstance(answer, tuple)
        if answer[0] == "place":
            self.place_borne_out(chart, case, *answer[1:])
        else:
            self.assertEqual(answer[0], "paper")
            self.paper_borne_out(chart, case, *answer[1:])

    def place_borne_out(self, chart, case, place):
        self.assertEqual([type(one) for one in place], [int, tuple, tuple])
        self.assertIs(lets_go(chart, place), True)
        row = tuple(gives - takes for takes, gives in zip(place[1], place[2]))
        self.assertIs(is_stretch(chart, row), True)
        self.assertEqual(place_of(chart, row), place)
        self.assertIs(solves(chart, place, case), True)

    def paper_borne_out(self, chart, case, first, numbers):
        self.assertIsInstance(numbers, list)
        self.assertTrue(all(whole(number) for number in numbers))
        self.assertEqual(len(numbers), len(rings_of(chart)))
        if case[0] == "pair":
            self.assertTrue(whole(first) and first >= 1)
        else:
            self.assertIsInstance(first, list)
            self.assertEqual(len(first), states_of(chart))
            self.assertTrue(all(whole(weight) and weight >= 0 for weight in first))
            self.assertTrue(any(first))
            self.assertTrue(all(has_move(chart, state, case[2]) for state, weight in enumerate(first) if weight))
        self.assertTrue(sum_holds(chart, case, first, numbers))
        self.assertIs(is_paper(chart, case, first, numbers), True)

    def test_places_of_pairs(self):
        self.told("moves a; 0 a 1", ("pair", 0, 1), "place")
        self.told("moves a b; 0 a 1; 1 b 0", ("pair", 0, 1), "place")
        self.told("moves a b; 0 a 1; 0 b 2; 1 b 3; 2 a 3", ("pair", 1, 2), "place")
        self.told("moves a b c; 0 b 1", ("pair", 0, 1), "place")

    def test_papers_of_pairs(self):
        self.told("moves a; 0 a 1; 1 a 0", ("pair", 0, 1), "paper")
        self.told("moves a; 0 a 1; 0 a 2", ("pair", 1, 2), "paper")
        self.told("moves a; 0 a 1; 1 a 1", ("pair", 0, 1), "paper")
        self.told("moves a b; 0 a 1; 0 b 2; 1 b 3; 2 a 4", ("pair", 3, 4), "paper")
        # Only a multiple of what parts the states is a sum of rings.
        self.told("moves a; 0 a 1; 1 a 2; 2 a 3; 3 a 4; 4 a 0", ("pair", 1, 3), "paper")

    def test_places_of_gaps(self):
        self.told("moves a; 0 a 1", ("gap", 1, "a"), "place")
        self.told("moves a", ("gap", 0, "a"), "place")
        self.told("moves a b; 0 a 1", ("gap", 1, "b"), "place")
        self.told("moves a b; 0 a 1; 1 b 0", ("gap", 0, "b"), "place")
        self.told("moves a b; 0 a 1; 1 b 2; 2 b 3", ("gap", 0, "b"), "place")
        self.told("moves a b c; 0 a 0; 0 a 1", ("gap", 1, "c"), "place")

    def test_papers_of_gaps(self):
        # The states around have the move, so the one between them can't be without it.
        self.told("moves a b; 0 a 0; 0 b 1; 1 b 2; 2 a 2", ("gap", 1, "a"), "paper")
        self.told("moves a; 0 a 0; 0 a 1", ("gap", 1, "a"), "paper")
        self.told("moves a b; 0 a 1; 1 b 1", ("gap", 0, "b"), "place")
        self.told("moves a b; 0 a 1; 0 b 2; 1 b 3", ("gap", 2, "a"), "place")
        self.told("moves a b; 0 a 1; 1 a 0; 1 b 1", ("gap", 0, "b"), "paper")

    def test_gaps_that_many_states_stand_against(self):
        chart = boxes(3, 3, False)
        fuller = (chart[0], sorted(chart[1] + [(state, "e", state) for state in range(9) if state != 4]))
        for case in cases_of(fuller):
            self.borne_out(fuller, case, parted(fuller, case))
        self.assertEqual(parted(fuller, ("gap", 4, "e"))[0], "paper")
        corner = (chart[0], sorted(chart[1] + [(state, "e", state) for state in range(8)]))
        self.assertEqual(parted(corner, ("gap", 8, "e"))[0], "place")

    def test_all_cases_of_many_charts(self):
        told = {}
        for chart in many_charts():
            for case in cases_of(chart):
                answer = asked(self, parted, chart, case)
                self.borne_out(chart, case, answer)
                told[case[0], answer[0]] = told.get((case[0], answer[0]), 0) + 1
        self.assertEqual(len(told), 4)
        self.assertGreater(min(told.values()), 100, told)

    def test_where_a_paper_is_no_small_place_solves(self):
        for chart in itertools.islice(many_charts(), 12):
            places = [place for place in small_places(chart[0], 3) if lets_go(chart, place)]
            for case in cases_of(chart):
                if parted(chart, case)[0] == "paper":
                    self.assertFalse(any(solves(chart, place, case) for place in places))


class TestIsPaper(unittest.TestCase):
    def told(self, chart, case, first, numbers, expected):
        with self.subTest(chart=chart, case=case, first=first, numbers=numbers):
            self.assertIs(asked(self, is_paper, chart, case, first, numbers), expected)

    def test_a_pair(self):
        chart = read_chart("moves a; 0 a 1; 1 a 0")
        # The one ring is 2; the counts of 0 less those of 1 are -1.
        for times, number, expected in (
            (2, -1, True), (4, -2, True), (200, -100, True),
            (2, 1, False), (2, -2, False), (1, -1, False), (3, -1, False), (2, 0, False),
            (0, 0, False), (-2, 1, False), (-4, 2, False),
        ):
            self.told(chart, ("pair", 0, 1), times, [number], expected)

    def test_a_pair_with_a_sum_of_nought(self):
        chart = read_chart("moves a; 0 a 1; 0 a 2")
        self.assertEqual(rings_of(chart), [])
        self.told(chart, ("pair", 1, 2), 1, [], True)
        self.told(chart, ("pair", 1, 2), 7, [], True)
        self.told(chart, ("pair", 1, 2), 0, [], False)
        self.told(chart, ("pair", 1, 2), -1, [], False)
        self.told(chart, ("pair", 0, 2), 1, [], False)
        self.told(chart, ("pair", 1, 2), 1, [0], False)

    def test_a_pair_that_has_a_place_has_no_paper(self):
        chart = counter(3)
        for times, one, two in itertools.product(range(1, 4), range(-3, 4), range(-3, 4)):
            self.told(chart, ("pair", 0, 2), times, [one, two], False)

    def test_a_gap(self):
        # The counts are (0, 0), (0, 1), (0, 2); the rings are the arcs by a, at 0 and at 2.
        chart = read_chart("moves a b; 0 a 0; 0 b 1; 1 b 2; 2 a 2")
        self.assertEqual(rings_of(chart), [(1, 0), (1, 0)])
        case = ("gap", 1, "a")
        for weights, numbers, expected in (
            ([1, 0, 1], [0, 0], True),
            ([3, 0, 3], [0, 0], True),
            ([1, 0, 1], [5, -5], True),
            ([1, 0, 1], [1, 0], False),
            ([1, 0, 1], [0, -1], False),
            ([2, 0, 1], [0, 0], False),
            ([1, 0, 2], [0, 0], False),
            ([1, 0, 0], [0, 0], False),
            ([0, 0, 0], [0, 0], False),
            ([-1, 0, -1], [0, 0], False),
            ([1, 1, 1], [0, 0], False),
            ([0, 1, 0], [0, 0], False),
            ([0, 5, 0], [1, -1], False),
        ):
            self.told(chart, case, weights, numbers, expected)

    def test_weights_of_which_one_is_below_nought(self):
        # By their sums alone these would do.
        chart = read_chart("moves a b; 0 a 0; 0 b 1; 1 b 2; 1 a 1; 2 a 2; 2 b 3")
        self.assertEqual(len(rings_of(chart)), 3)
        self.assertTrue(sum_holds(chart, ("gap", 3, "a"), [-2, 3, 0, 0], [0, 0, 0]))
        self.told(chart, ("gap", 3, "a"), [-2, 3, 0, 0], [0, 0, 0], False)
        self.told(chart, ("gap", 3, "a"), [0, 1, -2, 0], [0, 0, 0], False)
        self.told(chart, ("gap", 3, "a"), [0, 0, 0, 7], [0, 0, 0], False)

    def test_a_weight_for_a_state_that_has_not_the_move(self):
        chart = read_chart("moves a b; 0 a 1; 1 b 0; 1 a 2; 2 b 1; 1 b 1")
        case = ("gap", 0, "b")
        answer = parted(chart, case)
        self.assertEqual(answer[0], "paper")
        self.told(chart, case, answer[1], answer[2], True)
        # The state 0 itself brings nothing to the sum, but hasn't the move.
        self.told(chart, case, [1] + answer[1][1:], answer[2], False)

    def test_lengths(self):
        chart = read_chart("moves a b; 0 a 0; 0 b 1; 1 b 2; 2 a 2")
        case = ("gap", 1, "a")
        for weights, numbers in (
            ([1, 0, 1], []), ([1, 0, 1], [0]), ([1, 0, 1], [0, 0, 0]), ([1, 0, 1, 0], [0, 0]), ([1, 0], [0, 0]),
            ([], [0, 0]), ([], []), ([1, 0, 1, 0], [0, 0, 0]), ([1], [0, 0]),
        ):
            self.told(chart, case, weights, numbers, False)
        pair = read_chart("moves a; 0 a 1; 1 a 0")
        for numbers in ([], [-1, 0], [-1, -1], [-1] + [0] * 100):
            self.told(pair, ("pair", 0, 1), 2, numbers, False)

    def test_numbers_changed_by_one(self):
        changed = 0
        for chart in many_charts():
            for case in cases_of(chart):
                answer = parted(chart, case)
                if answer[0] == "paper":
                    changed += self.each_change(chart, case, answer[1], answer[2])
        self.assertGreater(changed, 1000)

    def each_change(self, chart, case, first, numbers):
        """Ask of each paper with one number changed by one; how many were asked of."""
        asked_of = 0
        for at, by in itertools.product(range(len(numbers)), (1, -1)):
            other = numbers[:at] + [numbers[at] + by] + numbers[at + 1:]
            self.assertIs(is_paper(chart, case, first, other), sum_holds(chart, case, first, other))
            asked_of += 1
        if case[0] == "pair":
            self.assertIs(is_paper(chart, case, 2 * first, [2 * number for number in numbers]), True)
            self.assertIs(is_paper(chart, case, -first, [-number for number in numbers]), False)
            self.assertIs(is_paper(chart, case, 0, [0] * len(numbers)), False)
            return asked_of
        for at, by in itertools.product(range(len(first)), (1, -1)):
            other = first[:at] + [first[at] + by] + first[at + 1:]
            fits = min(other) >= 0 and any(other) and sum_holds(chart, case, other, numbers)
            fits = fits and all(has_move(chart, state, case[2]) for state, weight in enumerate(other) if weight)
            self.assertIs(is_paper(chart, case, other, numbers), fits)
            asked_of += 1
        self.assertIs(is_paper(chart, case, [-weight for weight in first], [-number for number in numbers]), False)
        self.assertIs(is_paper(chart, case, [0] * len(first), [0] * len(numbers)), False)
        return asked_of

    def test_great_numbers(self):
        chart = read_chart("moves a; 0 a 1; 1 a 0")
        great = 10**59
        self.told(chart, ("pair", 0, 1), 2 * great, [-great], True)
        self.told(chart, ("pair", 0, 1), 2 * great + 1, [-great], False)
        self.told(chart, ("pair", 0, 1), 2 * great, [1 - great], False)


if __name__ == "__main__":
    unittest.main()
