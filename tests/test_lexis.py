"""The words of a text, and what is refused with NoText [6]; [2] and [3] for them."""

import unittest

from netfinder.errors import NoText
from netfinder.lexis import words

SMALL_LETTERS = "abcdefghijklmnopqrstuvwxyz"
TAKEN_SIGNS = SMALL_LETTERS + "0123456789; "


class TestWords(unittest.TestCase):
    def told(self, text, expected):
        with self.subTest(text=text):
            answer = words(text)
            self.assertIsInstance(answer, list)
            self.assertEqual(answer, expected)

    def refused(self, text):
        with self.subTest(text=text), self.assertRaises(NoText):
            words(text)

    def test_words_with_blanks_between(self):
        self.told("moves a b; 0 a 1", ["moves", "a", "b", ";", "0", "a", "1"])
        self.told("a b", ["a", "b"])
        self.told("12 7", ["12", "7"])
        self.told("; ;", [";", ";"])
        self.told("a ; 1", ["a", ";", "1"])

    def test_words_without_blanks_between(self):
        self.told("a1", ["a", "1"])
        self.told("1a", ["1", "a"])
        self.told("ab12cd", ["ab", "12", "cd"])
        self.told("a;1;b", ["a", ";", "1", ";", "b"])
        self.told(";;", [";", ";"])
        self.told(";;;", [";", ";", ";"])
        self.told("moves a;0a1", ["moves", "a", ";", "0", "a", "1"])

    def test_blanks_ahead_behind_and_many(self):
        self.told(" a", ["a"])
        self.told("a ", ["a"])
        self.told("   a    1   ;   ", ["a", "1", ";"])

    def test_runs_are_the_longest(self):
        self.told(SMALL_LETTERS, [SMALL_LETTERS])
        self.told("1234567890", ["1234567890"])
        self.told("az", ["az"])
        self.told("a z", ["a", "z"])
        self.told("z" * 100, ["z" * 100])

    def test_no_words(self):
        self.told("", [])
        self.told(" ", [])
        self.told(" " * 50, [])

    def test_sixty_figures_are_a_word(self):
        sixty = "1234567890" * 6
        self.told(sixty, [sixty])
        self.told("9" * 60, ["9" * 60])
        self.told("a" + sixty + "b", ["a", sixty, "b"])
        self.told(sixty + " " + sixty, [sixty, sixty])
        self.told(sixty + ";" + sixty, [sixty, ";", sixty])
        self.told(sixty + "a" + sixty, [sixty, "a", sixty])

    def test_sixty_one_figures_are_refused(self):
        longer = "1" * 61
        for text in (longer, "a" + longer, longer + "a", "1 " + longer, longer + " 1", ";" + longer, "9" * 200):
            self.refused(text)

    def test_a_nought_alone(self):
        self.told("0", ["0"])
        self.told("a0", ["a", "0"])
        self.told("0a", ["0", "a"])
        self.told("0 0", ["0", "0"])
        self.told("0;0", ["0", ";", "0"])
        self.told("0 1", ["0", "1"])
        self.told("10", ["10"])
        self.told("100", ["100"])

    def test_a_nought_ahead_is_refused(self):
        for text in ("00", "01", "007", "a01", "a00", "1 02", "01 1", "0" * 60, "0" * 61, "a;00"):
            self.refused(text)

    def test_every_other_ascii_sign_is_refused(self):
        for number in range(128):
            sign = chr(number)
            if sign not in TAKEN_SIGNS:
                for text in (sign, "a" + sign, sign + "a", "1" + sign, "a " + sign + " 1", ";" + sign):
                    self.refused(text)

    def test_every_sign_of_the_told_ones_is_taken(self):
        for sign in TAKEN_SIGNS:
            self.told(sign, [] if sign == " " else [sign])

    def test_named_other_signs_are_refused(self):
        for text in ("A", "aB", "-1", "1.5", "a_b", "a\tb", "a\n", "\na", "a\r", "a, b", "+1", "moves a: 0"):
            self.refused(text)

    def test_signs_outside_ascii_are_refused(self):
        signs = (
            "\u00e9",  # a small letter with a mark
            "\u00df",
            "\u03b1",
            "\uff41",  # a wide small letter
            "\u00b2",  # a raised figure
            "\u0663",  # an Arabic figure
            "\uff11",  # a wide figure
            "\u00a0",  # a blank that does not break
            "\u2003",
            "\u3000",
            "\u2028",
            "\uff1b",  # a wide semicolon
            "\u037e",
            "\U0001d41a",
            "\ud800",
        )
        for sign in signs:
            for text in (sign, "a" + sign, sign + "a", "1" + sign, " " + sign, "a " + sign + " 1"):
                self.refused(text)

    def test_what_is_no_text_is_refused(self):
        things = (None, 0, 1, -1, 12, 1.5, True, False, [], ["a"], (), ("a",), {}, {"a": 1}, b"a", b"", object())
        for thing in things:
            self.refused(thing)

    def test_a_refused_list_stays_as_it_was(self):
        thing = ["a", "b"]
        self.refused(thing)
        self.assertEqual(thing, ["a", "b"])

    def test_a_spoilt_answer_changes_no_later_one(self):
        for text in ("moves a b; 0 a 1", "", "a"):
            with self.subTest(text=text):
                first = words(text)
                kept = list(first)
                first.append("spoilt")
                first[0] = "spoilt"
                again = words(text)
                self.assertEqual(again, kept)
                self.assertIsNot(again, first)
                again.clear()
                self.assertEqual(words(text), kept)

    def test_a_refusal_changes_no_later_answer(self):
        self.told("a 1", ["a", "1"])
        self.refused("a 1 B")
        self.told("a 1", ["a", "1"])
        self.refused("a 1 B")

    def test_a_long_text(self):
        self.told("a1;" * 6666, ["a", "1", ";"] * 6666)
        self.told(" " * 19999 + "a", ["a"])
        self.told("a" * 20000, ["a" * 20000])


if __name__ == "__main__":
    unittest.main()
