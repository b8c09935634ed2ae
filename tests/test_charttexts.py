"""Charts read from texts and shown as texts [7], [8]; the words refused [6]; [2] and [3] for them."""

import itertools
import unittest

from netfinder.charts import is_chart
from netfinder.charttexts import read_chart, show_chart
from netfinder.errors import NoChart, NoText
from tests.asking import asked, refused

TEXT = "moves a b; 0 a 1; 1 b 0"
CHART = (("a", "b"), [(0, "a", 1), (1, "b", 0)])
FIVE = ("a", "b", "c", "d", "e")
SIXTY = [(state, move, (state + 1) % 12) for state in range(12) for move in FIVE]
LINE = "; ".join(f"{state} a {state + 1}" for state in range(11))
NOT_TEXTS = (None, 0, 7, -1, 1.5, True, [], [TEXT], (), (TEXT,), {}, {"a": 1}, b"moves a", object)


def text_of(names, arcs):
    return "; ".join(["moves " + " ".join(names)] + [f"{first} {move} {second}" for first, move, second in arcs])


class TestReadChart(unittest.TestCase):
    def told(self, text, chart):
        with self.subTest(text=text):
            answer = asked(self, read_chart, text)
            self.assertEqual(answer, chart)
            self.assertIsInstance(answer, tuple)
            self.assertIsInstance(answer[0], tuple)
            self.assertIsInstance(answer[1], list)
            self.assertTrue(all(type(arc) is tuple for arc in answer[1]))
            self.assertTrue(is_chart(*answer))

    def no_text(self, *texts):
        for text in texts:
            with self.subTest(text=text):
                refused(self, NoText, read_chart, text)

    def no_chart(self, *texts):
        for text in texts:
            with self.subTest(text=text):
                refused(self, NoChart, read_chart, text)

    def test_the_documents_own_text(self):
        self.told(TEXT, CHART)

    def test_names_in_any_order(self):
        for names in itertools.permutations(("b", "a", "ab", "zz")):
            self.told(text_of(names, []), (("a", "ab", "b", "zz"), []))
        self.told("moves b a; 0 a 1; 1 b 0", CHART)

    def test_arcs_in_any_order(self):
        arcs = [(0, "a", 0), (0, "a", 2), (0, "b", 1), (1, "a", 0)]
        for order in itertools.permutations(arcs):
            self.told(text_of(("b", "a"), order), (("a", "b"), arcs))

    def test_arcs_rise_as_numbers(self):
        falling = [(0, "a", second) for second in range(11, -1, -1)]
        self.told(text_of(("a",), falling), (("a",), sorted(falling)))
        self.assertEqual(read_chart(text_of(("a",), falling))[1][2], (0, "a", 2))

    def test_blanks(self):
        for text in (
            "moves a b;0a1;1b0",
            "  moves a b; 0 a 1; 1 b 0",
            "moves a b; 0 a 1; 1 b 0    ",
            "moves   a    b  ;  0  a  1  ;  1  b  0",
            "   moves a b   ;0a 1;1 b0 ",
        ):
            self.told(text, CHART)

    def test_a_run_of_letters_is_one_word(self):
        self.told("moves ab; 0ab0", (("ab",), [(0, "ab", 0)]))
        self.no_text("movesa; 0 a 0", "movesab", "m oves a")

    def test_no_names(self):
        self.told("moves", ((), []))
        self.told("  moves  ", ((), []))
        self.no_chart("moves; 0 a 0")

    def test_no_arcs(self):
        self.told("moves a", (("a",), []))
        self.told("moves e d c b a", (FIVE, []))

    def test_sixty_arcs_and_five_names(self):
        self.told(text_of(FIVE, SIXTY), (FIVE, SIXTY))
        self.told(text_of(reversed(FIVE), reversed(SIXTY)), (FIVE, SIXTY))

    def test_twelve_states(self):
        self.told("moves a; " + LINE, (("a",), [(state, "a", state + 1) for state in range(11)]))

    def test_long_names(self):
        self.told("moves abcdefgh; 0 abcdefgh 0", (("abcdefgh",), [(0, "abcdefgh", 0)]))
        self.told("moves move movesa", (("move", "movesa"), []))

    def test_loops_and_two_arcs_by_one_move(self):
        self.told("moves a; 0 a 1; 0 a 0; 1 a 1", (("a",), [(0, "a", 0), (0, "a", 1), (1, "a", 1)]))

    def test_another_first_part(self):
        self.no_text("a b", "move a b", "a moves b", "0 a 0", "0", "moves 0", "moves a 0", "moves 0 a", "moves a 1 b")
        self.no_text("a; 0 a 0", "0 a 0; moves a", "moves a b 0 a 1")

    def test_an_empty_first_part(self):
        self.no_text("", " ", "     ", ";", "; 0 a 0", ";moves a", " ; moves a; 0 a 0")

    def test_an_empty_part(self):
        self.no_text("moves a;", "moves;", "moves a; ", "moves a;;", "moves a;;0 a 0", "moves a; ; 0 a 0")
        self.no_text("moves a; 0 a 0;", "moves a; 0 a 0; ", TEXT + ";", "moves a; 0 a 0;;0 a 1")

    def test_an_arc_of_other_words(self):
        self.no_text("moves a; a 0 0", "moves a; 0 0 a", "moves a; 0 0 0", "moves a; a a a", "moves a; a a 0")
        self.no_text("moves a; 0 a a", "moves a; a 0 a", "moves a; moves a 0", "moves a; moves a", "moves a; moves")

    def test_a_word_left_out_or_put_in(self):
        self.no_text("moves a; 0", "moves a; a", "moves a; 0 a", "moves a; a 0", "moves a; 0 0")
        self.no_text("moves a; 0 a 0 0", "moves a; 0 a 0 a", "moves a; 0 0 a 0", "moves a; 0 a a 0")
        self.no_text("moves a; 0 a 0 0 a 0", "moves a; 0 a 0 moves", "moves a; 0 a 0; 1")

    def test_a_name_of_nine_letters(self):
        self.no_text("moves abcdefghi", "moves a abcdefghi", "moves abcdefghi; 0 abcdefghi 0")
        self.no_text("moves a; 0 abcdefghi 0", "moves a; 0 a 0; 0 abcdefghi 0", "moves " + "z" * 1000)

    def test_moves_as_a_name(self):
        self.no_text("moves moves", "moves a moves", "moves moves a", "moves moves; 0 moves 0", "moves a; 0 moves 0")

    def test_six_names(self):
        self.no_text("moves a b c d e f", "moves a a a a a a", "moves a b c d e e", "moves a b c d e a; 0 a 0")
        self.no_text("moves " + "a " * 100)

    def test_sixty_one_arcs(self):
        self.no_text(text_of(FIVE, SIXTY + [(0, "a", 0)]))
        self.no_text(text_of(FIVE, SIXTY + [SIXTY[0]]))
        self.no_text(text_of(("a",), [(0, "a", 0)] * 61))
        self.no_text(text_of(("a",), [(0, "b", 0)] * 61))
        self.no_text(text_of(("a",), [(0, "a", 99)] * 61))
        self.no_chart(text_of(("a",), [(0, "a", 0)] * 60))

    def test_signs_that_no_word_has(self):
        for sign in ("A", ",", ".", "-", "_", ":", "\t", "\n", "\r", "\u00e9", "\u00b2", "\u0663", "\u00a0", "\uff1b"):
            self.no_text(sign, sign + TEXT, TEXT + sign, "moves a" + sign + " b", "moves a; 0 a" + sign + " 0")
        self.no_text("moves a; 0 a -1", "moves a; 0 a 1.0", "Moves a", "moves a, b")

    def test_numbers_with_too_many_figures_or_a_nought_ahead(self):
        self.no_text("moves a; 0 a " + "1" * 61, "moves a; " + "1" * 61 + " a 0", "moves a; 0 a " + "9" * 5000)
        self.no_text("moves a; 0 a 01", "moves a; 00 a 0", "moves a; 0 a 00", "moves a; 0 a 0" + "1" * 59)

    def test_what_is_no_text(self):
        for thing in NOT_TEXTS:
            self.no_text(thing)

    def test_a_name_told_twice(self):
        self.no_chart("moves a a", "moves a b a", "moves a a; 0 a 0", "moves a b b c", "moves a a a a a")

    def test_an_arc_by_a_move_that_is_not_told(self):
        self.no_chart("moves a; 0 b 0", "moves; 0 a 0", "moves a; 0 a 0; 0 b 0", "moves ab; 0 a 0", "moves a; 0 aa 0")
        self.no_chart("moves b; 0 a 1; 1 b 0")

    def test_an_arc_told_twice(self):
        self.no_chart("moves a; 0 a 0; 0 a 0", TEXT + "; 0 a 1", "moves a b; 0 a 1; 0 b 1; 0 a 1")

    def test_great_states(self):
        self.no_chart("moves a; " + LINE + "; 11 a 12", "moves a; 0 a 12", "moves a; 12 a 0", "moves a; 0 a 0; 12 a 12")
        for great in ("13", "100", "4294967296", "9" * 59, "9" * 60):
            self.no_chart("moves a; 0 a " + great, "moves a; " + great + " a 0", f"moves a; 0 a {great}; {great} a 0")
        wide = "; ".join(f"0 a {second}" for second in range(1, 12))
        self.no_chart("moves a; " + wide + "; 0 a 12")

    def test_a_state_left_out(self):
        self.no_chart("moves a; 0 a 2", "moves a; 1 a 0", "moves a; 0 a 0; 1 a 0", "moves a; 0 a 0; 1 a 1")
        self.no_chart("moves a; 0 a 1; 2 a 3; 3 a 2", "moves a; 0 a 1; 3 a 1", "moves a; 0 a 11", "moves a; 1 a 1")
        self.no_chart("moves a; 0 a 1; 1 a 0; 2 a 0", "moves a; 2 a 1; 1 a 2; 0 a 0")

    def test_where_both_kinds_of_fault_are_there(self):
        self.no_text("moves a a; 0 a", "moves a a;", "moves a a; 0 a 0; 0", "moves a a A", "moves a; 0 b 0;")
        self.no_text("moves a; 0 a 12; 0 moves 0", "moves a; 0 a 2; 0 abcdefghi 0", "moves a; 0 b 0; 0 a 01")
        self.no_text("moves a; 0 a 0; 0 a 0; a", "moves a; 1 a 0; 0 a " + "1" * 61, "moves a a; 0 moves 0")
        self.no_text(text_of(("a", "a"), [(0, "b", 20)] * 61), "moves a a b abcdefghi", "moves a; 0 a 0; 0 a 0;")


class TestShowChart(unittest.TestCase):
    def shown(self, chart, text):
        with self.subTest(text=text):
            self.assertEqual(asked(self, show_chart, chart), text)
            self.assertEqual(read_chart(text), chart)

    def test_the_documents_own_text(self):
        self.shown((("a", "b"), [(0, "a", 1), (1, "b", 0)]), TEXT)

    def test_without_names_or_arcs(self):
        self.shown(((), []), "moves")
        self.shown((("a",), []), "moves a")
        self.shown((FIVE, []), "moves a b c d e")

    def test_arcs_in_their_order(self):
        self.shown(
            (("a", "bb"), [(0, "a", 0), (0, "a", 1), (0, "bb", 1), (1, "a", 0)]),
            "moves a bb; 0 a 0; 0 a 1; 0 bb 1; 1 a 0",
        )
        self.shown((("a",), [(state, "a", state + 1) for state in range(11)]), "moves a; " + LINE)
        wide = [(0, "a", second) for second in range(12)]
        self.shown((("a",), wide), "moves a; " + "; ".join(f"0 a {second}" for second in range(12)))

    def test_sixty_arcs(self):
        self.shown((FIVE, list(SIXTY)), text_of(FIVE, SIXTY))

    def test_what_is_read_is_shown_in_order(self):
        self.assertEqual(show_chart(read_chart("moves b a;1 b 0;0a1")), TEXT)


if __name__ == "__main__":
    unittest.main()
