"""The tree, ways and counts of a chart [15], and its rings [16]; [2] and [3] for them."""

import unittest

from netfinder.charts import goes_to, states_of
from netfinder.charttexts import read_chart
from netfinder.ways import counts_of, rings_of, ways_of
from tests.asking import asked
from tests.test_charttexts import FIVE, SIXTY
from tests.test_holding import renumbered, runs_of_nets

TWELVE = (FIVE, list(SIXTY))


def tree_by_meeting(chart):
    """The states as they are met, each with the arc by which it is, told as the document tells it."""
    met = {0: None}
    order = [0]
    for state in order:
        for move in chart[0]:
            for second in goes_to(chart, state, move):
                if second not in met:
                    met[second] = (state, move, second)
                    order.append(second)
    return met


def way_back(tree, state):
    way = ()
    while tree[state] is not None:
        way = (tree[state][1],) + way
        state = tree[state][0]
    return way


def many_charts():
    yield from (chart for net, (chart, markings) in runs_of_nets())
    for net, (chart, markings) in runs_of_nets():
        yield renumbered(chart, [0] + list(range(len(markings) - 1, 0, -1)))
    for text in (
        "moves a; 0 a 0; 0 a 1; 0 a 2; 1 a 2; 2 a 0",
        "moves a b; 0 a 3; 0 b 1; 1 b 3; 3 a 2; 3 b 0",
        "moves a b c; 0 b 2; 0 b 4; 2 a 1; 2 c 3; 4 a 3; 4 b 4; 3 b 1",
    ):
        yield read_chart(text)
    yield TWELVE


class TestWaysAndCounts(unittest.TestCase):
    def told(self, text, ways, counts):
        with self.subTest(text=text):
            chart = read_chart(text)
            for function, expected in ((ways_of, ways), (counts_of, counts)):
                answer = asked(self, function, chart)
                self.assertEqual(answer, expected)
                self.assertIsInstance(answer, list)
                self.assertTrue(all(type(one) is tuple for one in answer))

    def test_without_arcs_and_without_moves(self):
        self.told("moves", [()], [()])
        self.told("moves a", [()], [(0,)])
        self.told("moves a b c", [()], [(0, 0, 0)])

    def test_a_line(self):
        self.told("moves a; 0 a 1; 1 a 2", [(), ("a",), ("a", "a")], [(0,), (1,), (2,)])

    def test_counts_by_moves(self):
        self.told(
            "moves a b c; 0 b 1; 1 a 2; 2 b 3; 3 b 4",
            [(), ("b",), ("b", "a"), ("b", "a", "b"), ("b", "a", "b", "b")],
            [(0, 0, 0), (0, 1, 0), (1, 1, 0), (1, 2, 0), (1, 3, 0)],
        )

    def test_states_not_numbered_as_they_are_met(self):
        self.told("moves a; 0 a 2; 2 a 1", [(), ("a", "a"), ("a",)], [(0,), (2,), (1,)])
        self.told("moves a b; 0 a 3; 0 b 1; 3 a 2", [(), ("b",), ("a", "a"), ("a",)], [(0, 0), (0, 1), (2, 0), (1, 0)])

    def test_states_are_looked_at_as_they_are_met_not_by_number(self):
        # The state 2 is met ahead of 1, and both lead to 3.
        self.told(
            "moves a b; 0 a 2; 0 b 1; 1 a 3; 2 b 3",
            [(), ("b",), ("a",), ("a", "b")],
            [(0, 0), (0, 1), (1, 0), (1, 1)],
        )

    def test_the_first_arc_met_is_the_trees(self):
        self.told("moves a b; 0 a 1; 0 b 1", [(), ("a",)], [(0, 0), (1, 0)])
        # The short way goes ahead of the one that stands first in the chart's order.
        self.told("moves a b; 0 a 1; 0 b 2; 1 a 2", [(), ("a",), ("b",)], [(0, 0), (1, 0), (0, 1)])
        self.told("moves a b; 0 b 1; 0 b 2; 1 a 2; 2 a 1", [(), ("b",), ("b",)], [(0, 0), (0, 1), (0, 1)])

    def test_arcs_of_one_move_in_the_charts_order(self):
        # By one move 1 and 2 are met, in this order, so 3 is met from 1.
        self.told(
            "moves a b c; 0 a 1; 0 a 2; 1 c 3; 2 b 3",
            [(), ("a",), ("a",), ("a", "c")],
            [(0, 0, 0), (1, 0, 0), (1, 0, 0), (1, 0, 1)],
        )

    def test_an_arc_to_itself_or_back_is_not_the_trees(self):
        self.told("moves a b; 0 a 0; 0 b 1; 1 a 0; 1 b 1", [(), ("b",)], [(0, 0), (0, 1)])

    def test_twelve_states(self):
        chart = (("a",), [(state, "a", state + 1) for state in range(11)])
        self.assertEqual(asked(self, ways_of, chart), [("a",) * length for length in range(12)])
        self.assertEqual(asked(self, counts_of, chart), [(length,) for length in range(12)])

    def test_many_charts(self):
        for chart in many_charts():
            tree = tree_by_meeting(chart)
            ways = [way_back(tree, state) for state in range(states_of(chart))]
            self.assertEqual(ways_of(chart), ways)
            counts = [tuple(way.count(move) for move in chart[0]) for way in ways]
            self.assertEqual(counts_of(chart), counts)


class TestRings(unittest.TestCase):
    def told(self, text, rings):
        with self.subTest(text=text):
            answer = asked(self, rings_of, read_chart(text))
            self.assertEqual(answer, rings)
            self.assertIsInstance(answer, list)
            self.assertTrue(all(type(ring) is tuple for ring in answer))

    def test_none(self):
        self.told("moves", [])
        self.told("moves a b", [])
        self.told("moves a; 0 a 1; 1 a 2", [])
        self.told("moves a b; 0 a 2; 0 b 1; 2 a 3", [])

    def test_an_arc_from_a_state_to_itself(self):
        self.told("moves a; 0 a 0", [(1,)])
        self.told("moves a b c; 0 a 1; 1 b 1", [(0, 1, 0)])

    def test_an_arc_back(self):
        self.told("moves a b; 0 a 1; 1 b 0", [(1, 1)])
        self.told("moves a; 0 a 1; 1 a 2; 2 a 0", [(3,)])

    def test_numbers_below_nought(self):
        self.told("moves a b; 0 a 1; 0 b 1", [(-1, 1)])
        self.told("moves a b; 0 a 1; 1 a 2; 0 b 3; 3 b 3; 3 a 2", [(-1, 1), (0, 1)])
        self.told("moves a b; 0 a 1; 0 b 2; 1 a 2", [(2, -1)])

    def test_an_arc_beside_the_trees(self):
        self.told("moves a b c; 0 a 1; 0 b 1; 0 c 1", [(-1, 1, 0), (-1, 0, 1)])

    def test_two_arcs_by_one_move(self):
        self.told("moves a; 0 a 1; 0 a 2; 1 a 2", [(1,)])
        self.told("moves a; 0 a 0; 0 a 1", [(1,)])
        self.told("moves a; 0 a 1; 0 a 2; 2 a 1; 1 a 2", [(1,), (1,)])

    def test_a_move_that_has_a_ring_of_nought(self):
        # The square's other side tells nothing new.
        self.told("moves a b; 0 a 1; 0 b 2; 1 b 3; 2 a 3", [(0, 0)])

    def test_in_the_charts_order(self):
        self.told("moves a b c; 0 c 0; 0 a 1; 1 c 0; 1 b 1; 0 b 0", [(0, 1, 0), (0, 0, 1), (0, 1, 0), (1, 0, 1)])

    def test_sixty_arcs(self):
        rings = asked(self, rings_of, TWELVE)
        self.assertEqual(len(rings), 49)
        self.assertEqual(rings[:4], [(-1, 1, 0, 0, 0), (-1, 0, 1, 0, 0), (-1, 0, 0, 1, 0), (-1, 0, 0, 0, 1)])
        self.assertEqual(rings[-5:-3], [(12, 0, 0, 0, 0), (11, 1, 0, 0, 0)])
        self.assertEqual(rings[-3:], [(11, 0, 1, 0, 0), (11, 0, 0, 1, 0), (11, 0, 0, 0, 1)])

    def test_many_charts(self):
        for chart in many_charts():
            tree = tree_by_meeting(chart)
            counts = counts_of(chart)
            rings = []
            for first, move, second in chart[1]:
                if tree[second] != (first, move, second):
                    ring = list(counts[first])
                    ring[chart[0].index(move)] += 1
                    rings.append(tuple(one - other for one, other in zip(ring, counts[second])))
            self.assertEqual(rings_of(chart), rings)
            self.assertEqual(len(rings), len(chart[1]) - states_of(chart) + 1)


if __name__ == "__main__":
    unittest.main()
