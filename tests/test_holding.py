"""A chart and a net held against one another [14]; [2] and [3] for them."""

import itertools
import unittest

from netfinder.charts import goes_to
from netfinder.charttexts import read_chart
from netfinder.errors import OtherMoves, TooGreat
from netfinder.holding import held
from netfinder.nets import can_go
from netfinder.nettexts import read_net
from netfinder.runs import run_of
from tests.asking import asked, refused
from tests.test_runs import many_nets, play

BOTH_WAYS = "moves a b; 0 a 1; 1 b 0"


def renumbered(chart, numbers):
    """The chart with each state's number in the list of numbers."""
    return chart[0], sorted((numbers[first], move, numbers[second]) for first, move, second in chart[1])


def runs_of_nets():
    """The nets whose runs are told, with these."""
    for net in many_nets():
        try:
            yield net, run_of(net)
        except TooGreat:
            continue


def walked(chart, way):
    """The state to which a way leads in a chart without two arcs from one state by one move."""
    state = 0
    for move in way:
        (state,) = goes_to(chart, state, move)
    return state


class TestSame(unittest.TestCase):
    def told(self, chart, net, markings):
        with self.subTest(chart=chart, net=net):
            answer = asked(self, held, chart, net)
            self.assertEqual(answer, ("same", markings))
            self.assertIsInstance(answer, tuple)
            self.assertIsInstance(answer[1], list)

    def test_both_ways(self):
        self.told(read_chart(BOTH_WAYS), read_net("moves a b; 1 a 1 0 b 0 1; 0 a 0 1 b 1 0"), [(1, 0), (0, 1)])

    def test_without_arcs_moves_and_places(self):
        self.told(((), []), ((), []), [()])
        self.told(((), []), ((), [(7, (), ())]), [(7,)])
        self.told((("a",), []), read_net("moves a; 0 a 1 0"), [(0,)])
        self.told((("a",), [(0, "a", 0)]), (("a",), []), [()])

    def test_loops(self):
        self.told(read_chart("moves a b; 0 a 0; 0 b 1; 1 a 1"), read_net("moves a b; 1 b 1 0"), [(1,), (0,)])

    def test_markings_by_states_not_as_they_are_met(self):
        self.told(read_chart("moves a; 0 a 2; 2 a 1"), read_net("moves a; 2 a 1 0"), [(2,), (0,), (1,)])

    def test_each_nets_own_run_however_numbered(self):
        for net, (chart, markings) in runs_of_nets():
            self.assertEqual(held(chart, net), ("same", markings))
            for order in itertools.islice(itertools.permutations(range(1, len(markings))), 6):
                numbers = (0,) + order
                by_states = [markings[numbers.index(state)] for state in range(len(markings))]
                self.assertEqual(held(renumbered(chart, numbers), net), ("same", by_states))

    def test_twelve_states_numbered_anew(self):
        net = read_net("moves a b; 2 a 1 0; 3 b 1 0")
        chart, markings = run_of(net)
        self.told(chart, net, markings)
        numbers = [0] + list(range(11, 0, -1))
        self.told(renumbered(chart, numbers), net, [markings[0]] + markings[:0:-1])

    def test_more_than_twelve_states(self):
        chart = (("a",), [(state, "a", state + 1) for state in range(14)])
        self.told(chart, read_net("moves a; 14 a 1 0"), [(beads,) for beads in range(14, -1, -1)])


class TestAgainst(unittest.TestCase):
    def told(self, chart, net, expected):
        with self.subTest(chart=chart, net=net):
            self.assertEqual(asked(self, held, read_chart(chart), read_net(net)), expected)

    def test_stuck(self):
        self.told(BOTH_WAYS, "moves a b; 0 a 1 0 b 0 1", ("stuck", (), "a"))
        self.told("moves a b; 0 b 0", "moves a b; 0 a 1 0 b 1 0", ("stuck", (), "b"))
        self.told(BOTH_WAYS, "moves a b; 1 a 1 0; 0 b 1 0", ("stuck", ("a",), "b"))
        self.told("moves a; 0 a 1; 1 a 2; 2 a 3", "moves a; 2 a 1 0", ("stuck", ("a", "a"), "a"))

    def test_free(self):
        self.told("moves a b; 0 b 0", "moves a b", ("free", (), "a"))
        self.told("moves a b; 0 a 0", "moves a b", ("free", (), "b"))
        self.told("moves a", "moves a; 3 a 1 0", ("free", (), "a"))
        self.told("moves a; 0 a 1", "moves a; 2 a 1 0", ("free", ("a",), "a"))
        self.told("moves a b; 0 a 1; 1 b 2", "moves a b; 1 a 1 0; 0 a 0 2 b 1 0", ("free", ("a", "b"), "b"))

    def test_one(self):
        self.told(BOTH_WAYS, "moves a b; 0 b 1 0", ("one", (), ("a",)))
        self.told("moves a; 0 a 1", "moves a", ("one", (), ("a",)))
        self.told("moves a b; 0 a 1; 1 b 2", "moves a b; 1 a 1 0; 0 a 0 1 b 1 1", ("one", ("a",), ("a", "b")))
        self.told("moves a; 0 a 1; 1 a 2", "moves a; 1 a 1 1; 5 a 5 4; 0 a 0 1", ("stuck", ("a",), "a"))
        self.told("moves a b; 0 a 1; 1 b 2", "moves a b; 1 a 1 0 b 0 1; 0 a 0 1 b 1 0", ("one", (), ("a", "b")))

    def test_one_with_both_ways_alike(self):
        self.told("moves a; 0 a 1; 0 a 2", "moves a; 1 a 1 0", ("one", ("a",), ("a",)))
        net = "moves a b; 1 b 1 0; 0 b 0 1 a 1 0"
        self.told("moves a b; 0 b 1; 1 a 2; 1 a 3", net, ("one", ("b", "a"), ("b", "a")))

    def test_one_with_a_state_that_was_not_looked_at_yet(self):
        net = "moves a b; 1 a 1 0 b 1 0; 0 a 0 1 b 0 1"
        self.told("moves a b; 0 a 1; 0 b 2", net, ("one", ("a",), ("b",)))
        self.told("moves a b; 0 a 2; 0 b 1", net, ("one", ("a",), ("b",)))

    def test_two(self):
        self.told("moves a b; 0 a 1; 0 b 1", "moves a b; 0 a 0 1 b 0 2", ("two", ("a",), ("b",)))
        self.told("moves a; 0 a 0", "moves a; 0 a 0 1", ("two", (), ("a",)))
        self.told("moves a; 0 a 0", "moves a; 1 a 1 0", ("two", (), ("a",)))
        self.told(
            BOTH_WAYS, "moves a b; 1 a 1 0 b 0 1; 0 a 0 1 b 1 0; 0 b 0 1", ("two", (), ("a", "b")),
        )
        self.told(
            "moves a b; 0 a 1; 1 b 1", "moves a b; 1 a 1 0; 0 a 0 1 b 1 2", ("two", ("a",), ("a", "b")),
        )

    def test_two_arcs_from_one_state_by_one_move(self):
        self.told("moves a; 0 a 0; 0 a 1", "moves a; 1 a 1 0", ("two", (), ("a",)))
        self.told("moves a; 0 a 0; 0 a 1", "moves a; 1 a 1 1", ("one", (), ("a",)))
        self.told("moves a b; 0 a 1; 0 b 1; 0 b 2", "moves a b; 1 a 1 0 b 1 0; 0 b 0 1", ("two", ("a",), ("b",)))

    def test_one_goes_ahead_of_two(self):
        # By c comes what the state 1 has, while the arc leads to the state 2, which has another marking.
        net = "moves a b c; 1 a 1 0 b 1 0 c 1 0; 0 a 0 1 c 0 1; 0 b 0 1"
        self.told("moves a b c; 0 a 1; 0 b 2; 0 c 2", net, ("one", ("a",), ("c",)))

    def test_states_in_the_order_in_which_they_got_markings(self):
        # Two states have a move too few each; the one met first is told, whatever its number.
        net = "moves a b; 2 a 1 0 b 1 0; 0 a 0 1; 0 b 0 1"
        self.told("moves a b; 0 a 1; 0 b 2", net, ("free", ("a",), "a"))
        self.told("moves a b; 0 a 2; 0 b 1", net, ("free", ("a",), "a"))

    def test_farther_states_come_behind_nearer_ones(self):
        # Behind a and a both nets are stuck; the second one is free behind b, which is met first.
        chart = "moves a b; 0 a 1; 0 b 2; 1 a 3; 3 a 4"
        self.told(chart, "moves a b; 2 a 1 0 b 2 0; 1 b 1 0; 0 a 0 1", ("stuck", ("a", "a"), "a"))
        self.told(chart, "moves a b; 2 a 1 0 b 2 1; 1 b 1 0; 0 a 0 1", ("free", ("b",), "a"))

    def test_move_by_move(self):
        both = "moves a b; 0 a 0; 0 b 0"
        self.told(both, "moves a b; 0 a 0 1 b 9 9", ("two", (), ("a",)))
        self.told(both, "moves a b; 0 a 9 9 b 0 1", ("stuck", (), "a"))
        self.told(both, "moves a b; 0 a 9 9 b 9 9", ("stuck", (), "a"))
        self.told("moves a b; 0 b 0", "moves a b; 0 b 9 9", ("free", (), "a"))
        self.told("moves a b; 0 a 0", "moves a b; 0 a 9 9", ("stuck", (), "a"))
        self.told("moves a b", "moves a b", ("free", (), "a"))

    def test_arc_by_arc(self):
        chart = "moves a b; 0 b 1; 0 b 2; 0 b 3; 1 a 1"
        self.told(chart, "moves a b; 0 a 1 1 b 0 1", ("one", ("b",), ("b",)))
        # Of the arcs by b the first leads to a state that has another marking, the second to one that is another's.
        chart = "moves a b; 0 a 1; 0 b 1; 0 b 2"
        self.told(chart, "moves a b; 0 a 0 1 b 0 2", ("two", ("a",), ("b",)))
        self.told(chart, "moves a b; 0 a 0 1 b 0 1", ("one", ("a",), ("b",)))

    def test_great_numbers(self):
        great = "9" * 60
        self.told("moves a; 0 a 1", f"moves a; {great} a {great} 1", ("same", [(int(great),), (1,)]))
        fewer = "8" + "9" * 59
        self.told("moves a; 0 a 1", f"moves a; {fewer} a {great} 1", ("stuck", (), "a"))

    def test_each_pair_of_a_run_and_another_net(self):
        told = {"same": 0, "stuck": 0, "free": 0, "one": 0, "two": 0}
        nets = [net for number, net in enumerate(many_nets()) if number % 17 == 0]
        charts = [chart for number, (net, (chart, markings)) in enumerate(runs_of_nets()) if number % 19 == 0]
        for chart, net in itertools.product(charts, nets):
            answer = held(chart, net)
            self.borne_out(chart, net, answer)
            told[answer[0]] += 1
        self.assertGreater(min(told.values()), 10, told)

    def borne_out(self, chart, net, answer):
        if answer[0] == "same":
            self.assertEqual(run_of(net)[0][0], chart[0])
            self.assertEqual(sorted(run_of(net)[1]), sorted(answer[1]))
            for first, move, second in chart[1]:
                self.assertEqual(goes_to(chart, first, move), [second])
            self.assertEqual(len(run_of(net)[0][1]), len(chart[1]))
        elif answer[0] in ("stuck", "free"):
            has = bool(goes_to(chart, walked(chart, answer[1]), answer[2]))
            goes = can_go(net, play(net, answer[1]), answer[2])
            self.assertEqual((has, goes), (answer[0] == "stuck", answer[0] == "free"))
        else:
            states = [walked(chart, way) for way in answer[1:]]
            markings = [play(net, way) for way in answer[1:]]
            self.assertEqual(states[0] == states[1], answer[0] == "two")
            self.assertEqual(markings[0] == markings[1], answer[0] == "one")


class TestOtherMoves(unittest.TestCase):
    def test_moves_that_are_not_the_same(self):
        for chart, net in (
            ("moves a", "moves b"),
            ("moves", "moves a"),
            ("moves a", "moves"),
            ("moves a; 0 a 0", "moves a b; 0 b 1 0"),
            ("moves a b; 0 a 0", "moves a"),
            ("moves a b; 0 a 0", "moves a c; 0 c 1 0"),
            ("moves a; 0 a 1", "moves aa; 1 aa 1 0"),
            ("moves a b c d e", "moves a b c d f"),
        ):
            with self.subTest(chart=chart, net=net):
                refused(self, OtherMoves, held, read_chart(chart), read_net(net))


class TestAskedAgain(unittest.TestCase):
    def test_behind_another_chart(self):
        net = read_net("moves a b; 1 a 1 0 b 0 1; 0 a 0 1 b 1 0")
        charts = [read_chart(text) for text in (BOTH_WAYS, "moves a b; 0 a 1", "moves a b; 0 a 0", "moves a b; 0 b 1")]
        first = [held(chart, net) for chart in charts]
        self.assertEqual([answer[0] for answer in first], ["same", "free", "two", "free"])
        self.assertEqual([held(chart, net) for chart in reversed(charts)], first[::-1])


if __name__ == "__main__":
    unittest.main()
