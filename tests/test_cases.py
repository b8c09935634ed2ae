"""A chart's cases, and places that solve them; what is refused with NoCase [24]; [2] and [3] for them."""

import itertools
import unittest

from netfinder.cases import cases_of, solves
from netfinder.charts import has_move, states_of
from netfinder.charttexts import read_chart
from netfinder.errors import NoCase
from netfinder.parting import is_paper, parted
from netfinder.stretches import lets_go
from netfinder.ways import rings_of
from tests.asking import asked, refused
from tests.test_charttexts import FIVE
from tests.test_stretches import beads_that_fit, small_charts, small_places
from tests.test_ways import TWELVE

GREAT = 10**60 - 1


class TestCasesOf(unittest.TestCase):
    def told(self, text, cases):
        with self.subTest(text=text):
            answer = asked(self, cases_of, read_chart(text))
            self.assertEqual(answer, cases)
            self.assertIsInstance(answer, list)
            self.assertTrue(all(type(case) is tuple for case in answer))

    def test_one_state(self):
        self.told("moves", [])
        self.told("moves a", [("gap", 0, "a")])
        self.told("moves a; 0 a 0", [])
        self.told("moves a b c; 0 b 0", [("gap", 0, "a"), ("gap", 0, "c")])

    def test_pairs_rising_then_gaps_by_states_move_by_move(self):
        self.told(
            "moves a b; 0 a 1; 1 b 2",
            [
                ("pair", 0, 1), ("pair", 0, 2), ("pair", 1, 2),
                ("gap", 0, "b"), ("gap", 1, "a"), ("gap", 2, "a"), ("gap", 2, "b"),
            ],
        )
        self.told("moves a b; 0 a 1; 1 b 0", [("pair", 0, 1), ("gap", 0, "b"), ("gap", 1, "a")])

    def test_no_gaps(self):
        self.told("moves a; 0 a 1; 1 a 1", [("pair", 0, 1)])

    def test_moves_without_arcs(self):
        self.told("moves a z; 0 a 0", [("gap", 0, "z")])

    def test_twelve_states(self):
        cases = asked(self, cases_of, (("a",), [(state, "a", state + 1) for state in range(11)]))
        self.assertEqual(len(cases), 67)
        self.assertEqual(cases[:12], [("pair", 0, second) for second in range(1, 12)] + [("pair", 1, 2)])
        self.assertEqual(cases[65:], [("pair", 10, 11), ("gap", 11, "a")])
        self.assertEqual(cases[:66], [("pair",) + pair for pair in itertools.combinations(range(12), 2)])
        self.assertEqual(asked(self, cases_of, TWELVE), cases[:66])
        wide = (FIVE, [(0, "c", second) for second in range(1, 12)])
        gaps = [("gap", state, move) for state in range(12) for move in FIVE if (state, move) != (0, "c")]
        self.assertEqual(asked(self, cases_of, wide), cases[:66] + gaps)

    def test_numbers_rise_as_numbers(self):
        cases = cases_of(TWELVE)
        self.assertLess(cases.index(("pair", 2, 3)), cases.index(("pair", 10, 11)))
        self.assertLess(cases.index(("pair", 0, 9)), cases.index(("pair", 0, 10)))


class TestSolves(unittest.TestCase):
    def told(self, text, place, case, expected):
        with self.subTest(text=text, place=place, case=case):
            chart = read_chart(text)
            self.assertIs(lets_go(chart, place), True)
            self.assertIs(asked(self, solves, chart, place, case), expected)

    def test_a_pair(self):
        self.told("moves a b; 0 a 1; 1 b 0", (1, (1, 0), (0, 1)), ("pair", 0, 1), True)
        self.told("moves a b; 0 a 1; 1 b 0", (1, (1, 1), (1, 1)), ("pair", 0, 1), False)
        chart = "moves a b; 0 a 1; 0 b 2; 1 b 3; 2 a 3"
        for case, expected in ((("pair", 0, 1), True), (("pair", 0, 2), False), (("pair", 1, 2), True),
                               (("pair", 1, 3), False), (("pair", 2, 3), True)):
            self.told(chart, (0, (0, 0), (1, 0)), case, expected)
            self.told(chart, (GREAT, (GREAT, 0), (0, 0)), case, expected)

    def test_a_gap(self):
        self.told("moves a; 0 a 1", (1, (1,), (0,)), ("gap", 1, "a"), True)
        self.told("moves a; 0 a 1", (2, (1,), (0,)), ("gap", 1, "a"), False)
        self.told("moves a; 0 a 1", (2, (2,), (1,)), ("gap", 1, "a"), True)
        self.told("moves a; 0 a 1", (1, (0,), (0,)), ("gap", 1, "a"), False)
        self.told("moves a b; 0 a 1; 1 b 2", (0, (0, 1), (1, 1)), ("gap", 0, "b"), True)
        self.told("moves a b; 0 a 1; 1 b 2", (0, (0, 1), (1, 1)), ("gap", 2, "b"), False)

    def test_a_gap_of_a_move_without_arcs(self):
        self.told("moves a", (3, (4,), (0,)), ("gap", 0, "a"), True)
        self.told("moves a", (3, (3,), (0,)), ("gap", 0, "a"), False)
        self.told("moves a b; 0 a 1", (0, (0, 1), (1, 0)), ("gap", 0, "b"), True)
        self.told("moves a b; 0 a 1", (0, (0, 1), (1, 0)), ("gap", 1, "b"), False)

    def test_many_places(self):
        told = {True: 0, False: 0}
        for chart in small_charts():
            for place in small_places(chart[0], 3):
                if lets_go(chart, place):
                    beads = beads_that_fit(chart, place)
                    for case in cases_of(chart):
                        if case[0] == "pair":
                            expected = beads[case[1]] != beads[case[2]]
                        else:
                            expected = beads[case[1]] < place[1][chart[0].index(case[2])]
                        self.assertIs(solves(chart, place, case), expected)
                        told[expected] += 1
        self.assertGreater(min(told.values()), 100)


class TestNoCase(unittest.TestCase):
    def no_case(self, chart, *cases):
        moves = len(chart[0])
        place = (0, (0,) * moves, (0,) * moves)
        numbers = [0] * len(rings_of(chart))
        for case in cases:
            with self.subTest(chart=chart, case=case):
                refused(self, NoCase, solves, chart, place, case)
                refused(self, NoCase, parted, chart, case)
                refused(self, NoCase, is_paper, chart, case, 1, numbers)
                refused(self, NoCase, is_paper, chart, case, [1] * states_of(chart), numbers)

    def test_two_states_not_below_one_another(self):
        chart = read_chart("moves a; 0 a 1; 1 a 2")
        self.no_case(chart, ("pair", 0, 0), ("pair", 1, 1), ("pair", 1, 0), ("pair", 2, 0), ("pair", 2, 2))

    def test_a_state_that_there_is_not(self):
        chart = read_chart("moves a; 0 a 1")
        self.no_case(chart, ("pair", 0, 2), ("pair", -1, 0), ("pair", -1, 1), ("pair", 2, 3), ("pair", 0, GREAT))
        self.no_case(chart, ("gap", 2, "a"), ("gap", -1, "a"), ("gap", 12, "a"), ("gap", GREAT, "a"))
        self.no_case(read_chart("moves a"), ("pair", 0, 1), ("gap", 1, "a"))

    def test_a_move_that_the_state_has(self):
        self.no_case(read_chart("moves a b; 0 a 1; 1 b 0"), ("gap", 0, "a"), ("gap", 1, "b"))
        self.no_case(read_chart("moves a; 0 a 0"), ("gap", 0, "a"))

    def test_a_move_that_there_is_not(self):
        chart = read_chart("moves a bc; 0 a 1")
        self.no_case(chart, ("gap", 0, "c"), ("gap", 1, "b"), ("gap", 1, ""), ("gap", 1, "aa"), ("gap", 1, "moves"))
        self.no_case(((), []), ("gap", 0, "a"))

    def test_another_first_word(self):
        chart = read_chart("moves a; 0 a 1")
        self.no_case(chart, ("pairs", 0, 1), ("", 0, 1), ("Pair", 0, 1), ("gap ", 1, "a"), ("hole", 1, "a"))
        self.no_case(chart, ("gap", 0, 1), ("pair", 1, "a"), ("pair", 0, "a"), ("gap", "a", 1), ("a", "gap", 1))

    def test_a_list_or_a_text(self):
        chart = read_chart("moves a; 0 a 1")
        self.no_case(chart, ["pair", 0, 1], ["gap", 1, "a"], "pair", "gap", "pair 0 1", "", "abc", [], None, 0, 7, 1.5)
        self.no_case(chart, {"pair": 0}, {0: "pair", 1: 0, 2: 1}, object, b"gap", frozenset(), [("pair", 0, 1)])

    def test_a_tuple_of_another_length(self):
        chart = read_chart("moves a; 0 a 1")
        self.no_case(chart, (), ("pair",), ("pair", 0), ("pair", 0, 1, 1), ("gap",), ("gap", 1), ("gap", 1, "a", "a"))
        self.no_case(chart, (0, 1), (("pair", 0, 1),))

    def test_things_of_other_kinds_in_its_places(self):
        chart = read_chart("moves a; 0 a 1")
        self.no_case(chart, ("pair", 0, 1.0), ("pair", 0.0, 1), ("pair", "0", 1), ("pair", 0, "1"), ("pair", None, 1))
        self.no_case(chart, ("pair", 0, None), ("pair", [0], 1), ("pair", 0, (1,)), ("pair", 0, {}), ("pair", 0, [1]))
        self.no_case(chart, ("gap", 1.0, "a"), ("gap", "1", "a"), ("gap", None, "a"), ("gap", [1], "a"))
        self.no_case(chart, ("gap", (), "a"), ("gap", 1, None))
        self.no_case(chart, ("gap", 1, ["a"]), ("gap", 1, ("a",)), ("gap", 1, 0), ("gap", 1, b"a"))
        self.no_case(chart, (0, 0, 1), (None, 0, 1), (["pair"], 0, 1), (("pair",), 0, 1), (b"pair", 0, 1), ({}, 1, "a"))

    def test_each_case_and_no_other(self):
        things = ["pair", "gap", "a", "b", -1, 0, 1, 2, 3, None]
        for chart in small_charts():
            place = (0, (0,) * len(chart[0]), (0,) * len(chart[0]))
            cases = cases_of(chart)
            for thing in itertools.product(things, repeat=3):
                if thing in cases:
                    solves(chart, place, thing)
                else:
                    self.assertRaises(NoCase, solves, chart, place, thing)
            for kind, state, move in cases:
                self.assertTrue(kind == "pair" or not has_move(chart, state, move))


if __name__ == "__main__":
    unittest.main()
