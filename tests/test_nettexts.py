"""Nets read from texts and shown as texts [10], [11]; the words refused [6]; [2] and [3] for them."""

import itertools
import unittest

from netfinder.errors import NoNet, NoText
from netfinder.nettexts import read_net, show_net
from tests.asking import asked, refused
from tests.test_charttexts import FIVE, NOT_TEXTS

TEXT = "moves a b; 1 a 1 0 b 0 1; 0 b 2 2"
NET = (("a", "b"), [(1, (1, 0), (0, 1)), (0, (0, 2), (0, 2))])
SIXTY_FIGURES = "1234567890" * 6


class TestReadNet(unittest.TestCase):
    def told(self, text, net):
        with self.subTest(text=text[:200]):
            answer = asked(self, read_net, text)
            self.assertEqual(answer, net)
            self.assertIsInstance(answer, tuple)
            self.assertIsInstance(answer[0], tuple)
            self.assertIsInstance(answer[1], list)
            for place in answer[1]:
                self.assertEqual([type(one) for one in place], [int, tuple, tuple])
                self.assertIsInstance(place, tuple)

    def no_text(self, *texts):
        for text in texts:
            with self.subTest(text=text):
                refused(self, NoText, read_net, text)

    def no_net(self, *texts):
        for text in texts:
            with self.subTest(text=text):
                refused(self, NoNet, read_net, text)

    def test_the_documents_own_text(self):
        self.told(TEXT, NET)

    def test_names_in_any_order(self):
        for names in itertools.permutations(("b", "a", "ab")):
            text = "moves " + " ".join(names) + "; 7 ab 3 4 b 5 6 a 1 2"
            self.told(text, (("a", "ab", "b"), [(7, (1, 3, 5), (2, 4, 6))]))

    def test_moves_in_any_order_in_a_place(self):
        for told in itertools.permutations(("a 1 2", "b 3 4", "c 5 6")):
            self.told("moves a b c; 9 " + " ".join(told), (("a", "b", "c"), [(9, (1, 3, 5), (2, 4, 6))]))

    def test_places_stay_in_their_order(self):
        places = ("5 a 1 0", "0", "5 a 1 0", "2 a 0 7")
        expected = {"5 a 1 0": (5, (1,), (0,)), "0": (0, (0,), (0,)), "2 a 0 7": (2, (0,), (7,))}
        for order in itertools.permutations(places):
            self.told("moves a; " + "; ".join(order), (("a",), [expected[place] for place in order]))

    def test_moves_that_are_not_told_in_a_place(self):
        self.told("moves a b c; 4 b 1 2", (("a", "b", "c"), [(4, (0, 1, 0), (0, 2, 0))]))

    def test_moves_of_nought_and_nought_told(self):
        self.told("moves a b; 1 a 0 0", (("a", "b"), [(1, (0, 0), (0, 0))]))
        self.told("moves a b; 1 b 0 0 a 2 0", (("a", "b"), [(1, (2, 0), (0, 0))]))

    def test_places_with_beads_alone(self):
        self.told("moves a; 3", (("a",), [(3, (0,), (0,))]))
        self.told("moves; 3; 0", ((), [(3, (), ()), (0, (), ())]))

    def test_no_names_and_no_places(self):
        self.told("moves", ((), []))
        self.told("moves b a", (("a", "b"), []))
        self.told("moves e d c b a", (FIVE, []))
        self.told("moves abcdefgh move movesa", (("abcdefgh", "move", "movesa"), []))

    def test_blanks(self):
        for text in (
            "moves a b;1a1 0b0 1;0b2 2",
            "   moves a b; 1 a 1 0 b 0 1; 0 b 2 2",
            "moves a b; 1 a 1 0 b 0 1; 0 b 2 2   ",
            "moves  a  b ;  1   a 1   0 b 0 1  ;  0 b  2  2 ",
        ):
            self.told(text, NET)

    def test_two_hundred_places_and_one_more(self):
        places = [f"{beads} a {beads} 1" for beads in range(201)]
        expected = [(beads, (beads,), (1,)) for beads in range(200)]
        self.told("moves a; " + "; ".join(places[:200]), (("a",), expected))
        self.no_text("moves a; " + "; ".join(places))
        self.no_text("moves a" + "; 0" * 201, "moves a a" + "; 0" * 201, "moves a" + "; 0 b 1 1" * 201)
        self.no_net("moves a" + "; 0 b 1 1" * 200)

    def test_five_moves_in_a_place(self):
        text = "moves a b c d e; 1 e 9 9 d 7 8 c 5 6 b 3 4 a 1 2"
        self.told(text, (FIVE, [(1, (1, 3, 5, 7, 9), (2, 4, 6, 8, 9))]))

    def test_numbers_of_sixty_figures(self):
        number = int(SIXTY_FIGURES)
        text = f"moves a; {SIXTY_FIGURES} a {SIXTY_FIGURES} {'9' * 60}"
        self.told(text, (("a",), [(number, (number,), (10**60 - 1,))]))

    def test_another_first_part(self):
        self.no_text("a b", "move a", "a moves", "1 a 1 0", "0", "moves 0", "moves a 0", "moves a 1 0", "0; moves a")
        self.no_text("", "  ", ";", "; 0", " ; moves a", ";moves a; 0")

    def test_an_empty_part(self):
        self.no_text("moves a;", "moves;", "moves a; ", "moves a;; 0", "moves a; 0;", "moves a; 0; ", TEXT + ";")
        self.no_text("moves a; 0;;0")

    def test_a_place_of_other_words(self):
        self.no_text("moves a; a", "moves a; a 1 1", "moves a; a 1 1 0", "moves a; moves", "moves a; 0 1 1 1")
        self.no_text("moves a; 0 a a 1", "moves a; 0 a 1 a", "moves a; 0 1 a 1", "moves a; 0 1 1 a", "moves a; a a 1 1")
        self.no_text("moves a b; 0 a 1 1 1 b 1", "moves a b; 0 a 1 1 1 1 b")

    def test_a_word_left_out_or_put_in(self):
        self.no_text("moves a; 0 a", "moves a; 0 a 1", "moves a; 0 a 1 1 1", "moves a; 0 0", "moves a; 0 0 a 1 1")
        self.no_text("moves a b; 0 a 1 1 b", "moves a b; 0 a 1 1 b 1", "moves a b; 0 a 1 b 1 1", "moves a; 0 a a 1 1")
        self.no_text("moves a b; 0 a b 1 1", "moves a; 0; 0 a 1", "moves a; 1 a 1 1 0 a 1 1")

    def test_names_as_in_a_chart(self):
        self.no_text("moves abcdefghi", "moves a; 0 abcdefghi 1 1", "moves moves", "moves a; 0 moves 1 1")
        self.no_text("moves a moves; 0", "moves moves; 0 moves 1 1", "moves a; 0 a 1 1; 0 moves 0 0")

    def test_six_names(self):
        self.no_text("moves a b c d e f", "moves a a a a a a", "moves a b c d e e", "moves a b c d e f; 0")

    def test_words_that_are_refused(self):
        for sign in ("A", ",", ".", "-", "_", "\t", "\n", "\u00e9", "\u0663", "\u00a0"):
            self.no_text(sign, sign + TEXT, TEXT + sign, "moves a" + sign, "moves a; 0 a" + sign + " 1 1")
        self.no_text("moves a; -1", "moves a; 0 a -1 0", "moves a; 1.5", "moves a; 01", "moves a; 0 a 01 0")
        self.no_text("moves a; 00")
        self.no_text("moves a; 0 a 0 00", "moves a; " + "1" * 61, "moves a; 0 a " + "1" * 61 + " 0")
        self.no_text("moves a; 0 a 0 " + "1" * 61, "moves a; " + "9" * 5000)

    def test_what_is_no_text(self):
        for thing in NOT_TEXTS:
            self.no_text(thing)

    def test_a_name_told_twice(self):
        self.no_net("moves a a", "moves a b a", "moves a a; 0 a 1 1", "moves b b; 0", "moves a a a a a")

    def test_a_move_that_is_not_told(self):
        self.no_net("moves a; 0 b 1 1", "moves; 0 a 1 1", "moves a; 0 a 1 1 b 1 1", "moves a; 0; 0 b 0 0")
        self.no_net("moves ab; 0 a 1 1", "moves a; 0 aa 1 1", "moves a; 0 b 0 0")

    def test_a_move_told_twice_in_one_place(self):
        self.no_net("moves a; 0 a 1 1 a 1 1", "moves a; 0 a 0 0 a 0 0", "moves a b; 0 a 1 0 b 1 0 a 0 1")
        self.no_net("moves a; 0; 0 a 1 1 a 2 2", "moves a b c d e; 0 a 1 1 b 1 1 c 1 1 d 1 1 e 1 1 a 1 1")

    def test_the_same_move_in_two_places(self):
        self.told("moves a; 0 a 1 1; 0 a 1 1", (("a",), [(0, (1,), (1,))] * 2))

    def test_where_both_kinds_of_fault_are_there(self):
        self.no_text("moves a a; 0 a", "moves a a;", "moves a; 0 b 1 1; 0 a", "moves a; 0 a 1 1 a 1 1;")
        self.no_text("moves a; 0 b 1 1; 0 moves 1 1", "moves a; 0 a 1 1 a 1", "moves a a; A", "moves a; 0 b 1 01")
        self.no_text("moves a a b c d e", "moves a; 0 b 1 1 abcdefghi 1 1", "moves a a; 0 moves 0 0")
        self.no_text("moves a; 0 a 1 1 a 1 1; b", "moves a a; " + "1" * 61)


class TestShowNet(unittest.TestCase):
    def shown(self, net, text):
        with self.subTest(text=text[:200]):
            self.assertEqual(asked(self, show_net, net), text)
            self.assertEqual(read_net(text), net)

    def test_the_documents_own_text(self):
        self.shown((("a", "b"), [(1, (1, 0), (0, 1)), (0, (0, 2), (0, 2))]), TEXT)

    def test_without_names_or_places(self):
        self.shown(((), []), "moves")
        self.shown((("a", "bb"), []), "moves a bb")
        self.shown(((), [(3, (), ())]), "moves; 3")

    def test_takes_or_gives_above_nought(self):
        self.shown((("a", "b", "c"), [(0, (0, 1, 0), (0, 0, 2))]), "moves a b c; 0 b 1 0 c 0 2")
        self.shown((("a", "b"), [(5, (0, 0), (0, 0))]), "moves a b; 5")
        self.shown((("a", "b"), [(5, (3, 0), (4, 0)), (6, (0, 0), (0, 1))]), "moves a b; 5 a 3 4; 6 b 0 1")

    def test_places_in_their_order(self):
        self.shown((("a",), [(9, (1,), (0,)), (2, (0,), (0,)), (9, (1,), (0,))]), "moves a; 9 a 1 0; 2; 9 a 1 0")

    def test_great_numbers(self):
        great = int(SIXTY_FIGURES)
        self.shown((("a",), [(great, (great,), (0,))]), f"moves a; {SIXTY_FIGURES} a {SIXTY_FIGURES} 0")

    def test_two_hundred_places(self):
        net = (FIVE, [(beads, (1, 0, 0, 0, beads), (0, 0, 2, 0, 0)) for beads in range(1, 201)])
        text = "moves a b c d e" + "".join(f"; {beads} a 1 0 c 0 2 e {beads} 0" for beads in range(1, 201))
        self.shown(net, text)

    def test_what_is_read_is_shown_in_order(self):
        self.assertEqual(show_net(read_net("moves b a;1b0 1a1 0;0a 0 0 b2 2")), TEXT)


if __name__ == "__main__":
    unittest.main()
