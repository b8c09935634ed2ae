"""Nets found [29], and the whole of it [1], [4]: a net whose run is the chart, or a case and a paper."""

import itertools
import random
import unittest

from netfinder.cases import cases_of, solves
from netfinder.charts import is_chart, states_of
from netfinder.charttexts import read_chart, show_chart
from netfinder.finding import net_for
from netfinder.holding import held
from netfinder.nettexts import read_net, show_net
from netfinder.parting import is_paper, parted
from netfinder.runs import growth_of, run_of
from netfinder.stretches import beads_of
from netfinder.thinning import thinned
from tests.asking import asked, in_good_time
from tests.manycharts import FIVE, boxes, chain, counter, many_charts, ring
from tests.test_holding import renumbered, runs_of_nets
from tests.test_ways import TWELVE


def by_the_cases(chart):
    """What is to be told of a chart, reckoned from its cases as the document tells it."""
    for case in cases_of(chart):
        answer = parted(chart, case)
        if answer[0] == "paper":
            return ("none", case, answer)
    places = []
    for case in cases_of(chart):
        if not any(solves(chart, place, case) for place in places):
            places.append(parted(chart, case)[1])
    return ("net", (chart[0], places))


def full_charts():
    """Charts of twelve states with many arcs, always the same ones."""
    chance = random.Random(17)
    arcs = list(itertools.product(range(12), FIVE, range(12)))
    found = 0
    while found < 6:
        chart = (FIVE, sorted(chance.sample(arcs, 60)))
        if is_chart(*chart) and states_of(chart) == 12:
            found += 1
            yield chart
    yield TWELVE
    yield boxes(3, 4, True)
    yield boxes(2, 6, True)
    yield boxes(1, 12, True)
    for moves in (FIVE, FIVE[:2], FIVE[:1]):
        yield ring(12, moves)
    yield (FIVE, sorted((0, move, second) for second in range(12) for move in FIVE))
    # A line along which each move goes, in steps of its own.
    steps = zip(FIVE, (1, 2, 3, 5, 7))
    yield (FIVE, sorted((state, move, state + step) for move, step in steps for state in range(12 - step)))


class TestNetFor(unittest.TestCase):
    def borne_out(self, chart, answer):
        self.assertIsInstance(answer, tuple)
        if answer[0] == "none":
            kind, case, paper = answer
            self.assertEqual(paper[0], "paper")
            self.assertIs(is_paper(chart, case, paper[1], paper[2]), True)
            self.assertEqual(by_the_cases(chart), answer)
            return
        kind, net, markings = answer
        self.assertEqual(by_the_cases(chart), (kind, net))
        self.assertEqual(held(chart, net), ("same", markings))
        self.assertEqual(growth_of(net), ("ends", states_of(chart)))
        self.assertEqual(sorted(run_of(net)[1]), sorted(markings))
        for at, place in enumerate(net[1]):
            row = tuple(gives - takes for takes, gives in zip(place[1], place[2]))
            self.assertEqual([marking[at] for marking in markings], beads_of(chart, row))

    def told(self, text, *expected):
        with self.subTest(text=text):
            chart = read_chart(text)
            answer = asked(self, net_for, chart)
            self.borne_out(chart, answer)
            self.assertEqual(answer[:len(expected)], expected)
            return answer

    def test_without_arcs_and_without_moves(self):
        self.told("moves", "net", ((), []), [()])
        self.told("moves a; 0 a 0", "net", (("a",), []), [()])
        self.told("moves a", "net", (("a",), [(0, (1,), (1,))]), [(0,)])
        # One place shuts out all moves without arcs.
        self.told("moves a b c d e", "net", (FIVE, [(0, (1,) * 5, (1,) * 5)]), [(0,)])

    def test_nets(self):
        self.told("moves a b; 0 a 1; 1 b 0", "net")
        self.told("moves a; 0 a 1", "net")
        self.told("moves a b; 0 a 1; 0 b 2; 1 b 3; 2 a 3", "net")
        self.told("moves a b c; 0 b 1; 1 b 2", "net")

    def test_the_places_of_the_cases_in_their_order(self):
        # One place tells each two states apart; each gap may need one more.
        answer = self.told("moves a b; 0 a 1; 0 b 2; 1 b 3; 2 a 3", "net")
        chart = read_chart("moves a b; 0 a 1; 0 b 2; 1 b 3; 2 a 3")
        self.assertEqual(answer[1][1][0], parted(chart, ("pair", 0, 1))[1])
        self.assertGreater(len(answer[1][1]), 1)

    def test_the_first_case_that_has_a_paper(self):
        self.told("moves a; 0 a 1; 1 a 0", "none", ("pair", 0, 1))
        self.told("moves a; 0 a 1; 0 a 2", "none", ("pair", 1, 2))
        self.told("moves a b; 0 a 0; 0 b 1; 1 b 2; 2 a 2", "none", ("gap", 1, "a"))
        self.told("moves a b; 0 a 1; 0 b 2; 1 b 3; 2 a 4", "none", ("pair", 3, 4))
        # A pair with a paper goes ahead of the gaps with one.
        self.told("moves a b; 0 a 0; 0 b 1; 1 b 2; 2 a 2; 2 b 3; 2 b 4", "none", ("pair", 3, 4))

    def test_many_charts(self):
        told = {"net": 0, "none": 0}
        for chart in many_charts():
            answer = asked(self, net_for, chart)
            self.borne_out(chart, answer)
            told[answer[0]] += 1
        self.assertGreater(min(told.values()), 30, told)

    def test_the_run_of_a_net_has_a_net(self):
        for number, (net, (chart, markings)) in enumerate(runs_of_nets()):
            if number % 5 == 0:
                answer = net_for(chart)
                self.assertEqual(answer[0], "net")
                self.borne_out(chart, answer)
                turned = renumbered(chart, [0] + list(range(len(markings) - 1, 0, -1)))
                self.borne_out(turned, net_for(turned))

    def test_nets_of_some_places(self):
        for text in (
            "moves a b c; 2 a 1 0 b 0 1; 0 a 0 1 b 1 0 c 1 1; 1 c 1 0",
            "moves a b c d; 1 a 1 0 d 0 1; 1 b 1 0; 0 a 0 1 c 1 0; 0 b 0 1 c 1 0; 0 c 0 1 d 1 0",
            "moves a b; 6 a 2 0 b 0 3; 0 a 0 2 b 3 0",
            "moves a b c d e; 2 a 1 0 b 0 1; 0 a 0 1 b 1 0; 3 c 1 0 d 0 1; 0 c 0 1 d 1 0; 1 e 1 1",
            "moves a b; 5 a 3 0 b 2 0",
        ):
            chart = run_of(read_net(text))[0]
            self.told(show_chart(chart), "net")

    def test_charts_of_twelve_states_and_sixty_arcs_in_good_time(self):
        told = {"net": 0, "none": 0}
        for chart in full_charts():
            with self.subTest(chart=chart):
                self.assertTrue(is_chart(*chart))
                with in_good_time(60):
                    answer = asked(self, net_for, chart)
                self.borne_out(chart, answer)
                told[answer[0]] += 1
                if answer[0] == "net":
                    with in_good_time(60):
                        thinned(chart, answer[1])
        self.assertGreater(min(told.values()), 2, told)

    def test_somewhat_beyond_the_bounds(self):
        for chart in (chain(14), counter(14)):
            answer = net_for(chart)
            self.assertEqual(answer[0], "net")
            self.assertEqual(held(chart, answer[1]), ("same", answer[2]))
        six = (FIVE + ("f",), [(0, move, 1) for move in FIVE + ("f",)])
        answer = net_for(six)
        self.assertEqual(held(six, answer[1]), ("same", answer[2]))


class TestTheWhole(unittest.TestCase):
    def test_from_a_charts_text_to_a_nets_text_and_back(self):
        boxed = read_net("moves a b c d; 2 a 1 0 b 0 1; 0 a 0 1 b 1 0; 3 c 1 0 d 0 1; 0 c 0 1 d 1 0")
        for text in (
            show_chart(run_of(boxed)[0]),
            "moves a b; 0 a 1; 1 b 0",
            "moves a; 0 a 1; 1 a 2",
            "moves",
            "moves z",
            "moves a b c; 0 a 1; 0 b 2; 0 c 0; 1 b 3; 2 a 3",
        ):
            with self.subTest(text=text):
                chart = read_chart(text)
                kind, net, markings = net_for(chart)
                self.assertEqual(kind, "net")
                for found in (net, thinned(chart, net)):
                    again = read_net(show_net(found))
                    self.assertEqual(again, found)
                    # These charts are numbered as their states are met, so the run is told with the same numbers.
                    self.assertEqual(show_chart(run_of(again)[0]), text)
                self.assertEqual(run_of(net)[1], markings)

    def test_each_chart_has_just_one_of_both(self):
        for chart in many_charts():
            kinds = [parted(chart, case)[0] for case in cases_of(chart)]
            self.assertEqual(net_for(chart)[0], "none" if "paper" in kinds else "net")

    def test_the_same_asked_in_another_order_is_told_the_same(self):
        charts = list(itertools.islice(many_charts(), 60))
        told = [net_for(chart) for chart in charts]
        self.assertEqual([net_for(chart) for chart in reversed(charts)], told[::-1])


if __name__ == "__main__":
    unittest.main()
