"""Moves' names, states, arcs, and what a chart is [5]; [2] and [3] for them."""

import copy
import unittest

from netfinder.charts import goes_to, has_move, is_chart, states_of
from tests.asking import called_once

RING = (("a", "b"), [(0, "a", 1), (1, "b", 0)])
NO_ARCS = (("a",), [])
NOTHING = ((), [])
LOOP = (("a",), [(0, "a", 0)])
FORK = (("a", "b"), [(0, "a", 0), (0, "a", 1), (0, "a", 2), (2, "b", 1)])
BEGINNINGS = (("a", "aa", "aab"), [(0, "a", 1), (0, "aa", 2), (1, "aab", 3), (2, "a", 0)])
LINE_OF_12 = (("a",), [(state, "a", state + 1) for state in range(11)])
CHARTS = (RING, NO_ARCS, NOTHING, LOOP, FORK, BEGINNINGS, LINE_OF_12)

FIVE = ("a", "b", "c", "d", "e")


def sixty_arcs():
    return [(state, move, (state + 1) % 12) for state in range(12) for move in FIVE]


class TestStatesOf(unittest.TestCase):
    def told(self, chart, expected):
        with self.subTest(chart=chart):
            self.assertEqual(called_once(states_of, chart), (expected, True))

    def test_one_state_without_arcs(self):
        self.told(NOTHING, 1)
        self.told(NO_ARCS, 1)
        self.told((FIVE, []), 1)

    def test_one_more_than_the_greatest(self):
        self.told(LOOP, 1)
        self.told(RING, 2)
        self.told(FORK, 3)
        self.told(BEGINNINGS, 4)
        self.told(LINE_OF_12, 12)
        self.told((FIVE, sixty_arcs()), 12)

    def test_the_greatest_may_stand_anywhere(self):
        self.told((("a",), [(0, "a", 2), (1, "a", 0), (2, "a", 1)]), 3)
        self.told((("a",), [(0, "a", 1), (0, "a", 3), (1, "a", 2)]), 4)
        self.told((("a", "b"), [(0, "a", 1), (0, "b", 2), (1, "a", 0), (1, "b", 0)]), 3)


class TestHasMove(unittest.TestCase):
    def told(self, chart, state, move, expected):
        with self.subTest(chart=chart, state=state, move=move):
            answer, stayed = called_once(has_move, chart, state, move)
            self.assertIs(answer, expected)
            self.assertTrue(stayed)

    def test_without_arcs(self):
        self.told(NO_ARCS, 0, "a", False)

    def test_of_a_ring(self):
        self.told(RING, 0, "a", True)
        self.told(RING, 0, "b", False)
        self.told(RING, 1, "a", False)
        self.told(RING, 1, "b", True)

    def test_of_an_arc_from_a_state_to_itself(self):
        self.told(LOOP, 0, "a", True)
        self.told((("a", "b"), [(0, "a", 1), (1, "b", 1)]), 1, "b", True)
        self.told((("a", "b"), [(0, "a", 1), (1, "b", 1)]), 1, "a", False)

    def test_of_two_arcs_by_one_move(self):
        self.told(FORK, 0, "a", True)
        self.told(FORK, 1, "a", False)
        self.told(FORK, 2, "b", True)

    def test_of_a_move_without_arcs(self):
        chart = (("a", "b"), [(0, "a", 0)])
        self.told(chart, 0, "b", False)

    def test_a_state_that_is_only_come_to_has_no_move(self):
        self.told(LINE_OF_12, 11, "a", False)
        self.told(LINE_OF_12, 10, "a", True)

    def test_of_names_that_begin_one_another(self):
        self.told(BEGINNINGS, 0, "a", True)
        self.told(BEGINNINGS, 0, "aa", True)
        self.told(BEGINNINGS, 0, "aab", False)
        self.told(BEGINNINGS, 1, "a", False)
        self.told(BEGINNINGS, 1, "aa", False)
        self.told(BEGINNINGS, 1, "aab", True)


class TestGoesTo(unittest.TestCase):
    def told(self, chart, state, move, expected):
        with self.subTest(chart=chart, state=state, move=move):
            self.assertEqual(called_once(goes_to, chart, state, move), (expected, True))

    def test_without_arcs(self):
        self.told(NO_ARCS, 0, "a", [])

    def test_of_one_arc(self):
        self.told(RING, 0, "a", [1])
        self.told(RING, 1, "b", [0])
        self.told(RING, 0, "b", [])
        self.told(RING, 1, "a", [])

    def test_of_an_arc_from_a_state_to_itself(self):
        self.told(LOOP, 0, "a", [0])

    def test_of_some_arcs_by_one_move_rising(self):
        self.told(FORK, 0, "a", [0, 1, 2])
        self.told(FORK, 2, "b", [1])
        wide = (("a", "b"), [(0, "a", second) for second in range(12)] + [(0, "b", 2), (0, "b", 10)])
        self.told(wide, 0, "a", list(range(12)))
        self.told(wide, 0, "b", [2, 10])

    def test_of_a_move_without_arcs(self):
        self.told((("a", "b"), [(0, "a", 0)]), 0, "b", [])

    def test_of_names_that_begin_one_another(self):
        self.told(BEGINNINGS, 0, "a", [1])
        self.told(BEGINNINGS, 0, "aa", [2])
        self.told(BEGINNINGS, 1, "aab", [3])
        self.told(BEGINNINGS, 2, "a", [0])
        self.told(BEGINNINGS, 2, "aa", [])

    def test_the_told_list_is_new_each_time(self):
        chart = copy.deepcopy(FORK)
        told = goes_to(chart, 0, "a")
        told.append(7)
        told[0] = 9
        self.assertEqual(chart, FORK)
        again = goes_to(chart, 0, "a")
        self.assertEqual(again, [0, 1, 2])
        again.clear()
        self.assertEqual(goes_to(chart, 0, "a"), [0, 1, 2])
        empty = goes_to(chart, 1, "a")
        empty.append(5)
        self.assertEqual(goes_to(chart, 1, "a"), [])

    def test_a_later_change_of_the_chart_changes_no_told_list(self):
        chart = copy.deepcopy(FORK)
        told = goes_to(chart, 0, "a")
        chart[1].clear()
        self.assertEqual(told, [0, 1, 2])
        self.assertEqual(goes_to(chart, 0, "a"), [])
        self.assertEqual(states_of(chart), 1)
        self.assertIs(has_move(chart, 0, "a"), False)


class TestIsChart(unittest.TestCase):
    def told(self, moves, arcs, expected):
        with self.subTest(moves=moves, arcs=arcs):
            for again in range(2):
                answer, stayed = called_once(is_chart, moves, arcs)
                self.assertIs(answer, expected)
                self.assertTrue(stayed)

    def test_charts(self):
        for moves, arcs in CHARTS:
            self.told(moves, arcs, True)

    def test_the_length_of_a_name(self):
        self.told(("",), [], False)
        self.told(("", "a"), [], False)
        self.told(("a",), [], True)
        self.told(("z",), [], True)
        self.told(("abcdefgh",), [], True)
        self.told(("abcdefghi",), [], False)
        self.told(("z" * 8,), [(0, "z" * 8, 0)], True)
        self.told(("z" * 9,), [(0, "z" * 9, 0)], False)
        self.told(("a", "a" * 9), [], False)
        self.told(("z" * 3000,), [], False)

    def test_the_signs_of_a_name(self):
        for sign in ("A", "Z", "1", "0", "_", "-", " ", ";", ".", "`", "{", "\t", "\n", "\u00e9", "\uff41", "\u00df"):
            for name in (sign, "a" + sign, sign + "a", "a" + sign + "a"):
                self.told((name,), [], False)
                self.told((name,), [(0, name, 0)], False)

    def test_every_small_letter_makes_a_name(self):
        for letter in "abcdefghijklmnopqrstuvwxyz":
            self.told((letter,), [(0, letter, 0)], True)

    def test_the_word_moves_is_no_name(self):
        self.told(("moves",), [], False)
        self.told(("a", "moves"), [(0, "a", 0)], False)
        self.told(("a", "moves", "z"), [], False)
        for name in ("move", "movesa", "amoves", "mover", "sevom"):
            self.told((name,), [], True)

    def test_how_many_moves(self):
        self.told((), [], True)
        self.told(FIVE, [], True)
        self.told(FIVE + ("f",), [], False)
        self.told(FIVE + ("f",), [(0, "a", 0)], False)

    def test_moves_rise_each_once(self):
        self.told(("a", "b"), [], True)
        self.told(("b", "a"), [], False)
        self.told(("a", "a"), [], False)
        self.told(("a", "c", "b"), [], False)
        self.told(("a", "b", "b"), [], False)
        self.told(("a", "b", "a"), [], False)
        self.told(("a", "aa"), [], True)
        self.told(("aa", "a"), [], False)
        self.told(("aa", "b"), [], True)
        self.told(("b", "aa"), [], False)

    def test_how_many_arcs(self):
        arcs = sixty_arcs()
        self.assertEqual(len(arcs), 60)
        self.told(FIVE, arcs, True)
        longer = sorted(arcs + [(11, "e", 11)])
        self.assertEqual(len(longer), 61)
        self.told(FIVE, longer, False)

    def test_arcs_rise_each_once(self):
        moves = ("a", "b")
        self.told(moves, [(0, "a", 1), (0, "a", 1)], False)
        self.told(moves, [(0, "a", 0), (0, "a", 0)], False)
        self.told(moves, [(1, "b", 0), (0, "a", 1)], False)
        self.told(moves, [(0, "b", 1), (0, "a", 1)], False)
        self.told(moves, [(0, "a", 1), (0, "a", 0)], False)
        self.told(moves, [(0, "a", 1), (0, "b", 1), (0, "a", 1)], False)
        self.told(moves, [(0, "a", 1), (1, "a", 0), (0, "b", 0)], False)
        self.told(moves, [(0, "a", 1), (0, "b", 0)], True)
        self.told(moves, [(0, "a", 0), (0, "a", 1)], True)
        self.told(("a", "aa"), [(0, "a", 1), (0, "aa", 0)], True)
        self.told(("a", "aa"), [(0, "aa", 1), (0, "a", 0)], False)

    def test_states_rise_as_numbers(self):
        wide = [(0, "a", second) for second in range(12)]
        self.told(("a",), wide, True)
        self.told(("a",), sorted(wide, key=lambda arc: str(arc[2])), False)

    def test_an_arc_by_a_move_that_is_not_told(self):
        self.told(("a",), [(0, "b", 0)], False)
        self.told(("a", "c"), [(0, "a", 0), (0, "b", 0)], False)
        self.told(("ab",), [(0, "a", 0)], False)
        self.told(("a",), [(0, "ab", 0)], False)
        self.told(("a",), [(0, "", 0)], False)
        self.told(("a",), [(0, "moves", 0)], False)

    def test_no_moves(self):
        self.told((), [], True)
        self.told((), [(0, "a", 0)], False)
        self.told((), [(0, "a", 1)], False)

    def test_states_below_nought(self):
        self.told(("a",), [(-1, "a", 0)], False)
        self.told(("a",), [(0, "a", -1)], False)
        self.told(("a",), [(-1, "a", -1)], False)
        self.told(("a",), [(-1, "a", 0), (0, "a", -1)], False)
        self.told(("a",), [(0, "a", -1), (0, "a", 1)], False)
        self.told(("a",), [(-(10**59), "a", 0)], False)

    def test_the_greatest_state(self):
        self.told(("a",), [(state, "a", state + 1) for state in range(11)], True)
        self.told(("a",), [(state, "a", state + 1) for state in range(12)], False)
        self.told(("a",), [(0, "a", second) for second in range(1, 12)], True)
        self.told(("a",), [(0, "a", second) for second in range(1, 13)], False)
        self.told(("a",), [(state, "a", state + 1) for state in range(11)] + [(12, "a", 0)], False)

    def test_far_greater_states(self):
        for great in (100, 10**9, 10**59, 10**60 - 1):
            self.told(("a",), [(0, "a", great)], False)
            self.told(("a",), [(great, "a", 0)], False)
            self.told(("a",), [(0, "a", great), (great, "a", 0)], False)

    def test_a_state_that_is_not_come_to(self):
        self.told(("a",), [(1, "a", 0)], False)
        self.told(("a",), [(0, "a", 2)], False)
        self.told(("a",), [(0, "a", 0), (1, "a", 1)], False)
        self.told(("a",), [(0, "a", 0), (1, "a", 0)], False)
        self.told(("a",), [(0, "a", 1), (2, "a", 1)], False)
        self.told(("a",), [(0, "a", 1), (2, "a", 3), (3, "a", 2)], False)
        self.told(("a",), [(0, "a", 1), (1, "a", 0), (2, "a", 0), (2, "a", 2)], False)
        self.told(("a",), [(0, "a", 11)], False)
        self.told(("a",), [(11, "a", 11)], False)

    def test_a_state_is_come_to_by_a_way_of_any_length(self):
        self.told(("a",), [(0, "a", 3), (1, "a", 1), (2, "a", 1), (3, "a", 2)], True)
        falling = [(0, "a", 11)] + [(state, "a", state - 1) for state in range(2, 12)]
        self.told(("a",), falling, True)
        self.told(("a",), falling[:5] + falling[6:], False)

    def test_an_asked_list_that_is_changed_is_told_anew(self):
        arcs = [(0, "a", 1)]
        self.assertIs(is_chart(("a",), arcs), True)
        arcs.append((0, "a", 3))
        self.assertIs(is_chart(("a",), arcs), False)
        arcs.pop()
        self.assertIs(is_chart(("a",), arcs), True)


if __name__ == "__main__":
    unittest.main()
