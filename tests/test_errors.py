"""The refusals: each is a NetError and a ValueError, and stands under no other one."""

import unittest

from netfinder import errors
from netfinder.errors import NetError

NAMES = ["NoText", "NoChart", "NoNet", "TooGreat", "OtherMoves", "NoStretch", "NoCase", "NoRun"]


class TestErrors(unittest.TestCase):
    def test_net_error_stands_straight_under_value_error(self):
        self.assertEqual(NetError.__bases__, (ValueError,))

    def test_each_refusal_stands_straight_under_net_error(self):
        for name in NAMES:
            with self.subTest(name=name):
                self.assertEqual(getattr(errors, name).__bases__, (NetError,))

    def test_each_refusal_is_taken_as_net_error_and_as_value_error(self):
        for name in NAMES:
            for base in (NetError, ValueError):
                with self.subTest(name=name, base=base), self.assertRaises(base):
                    raise getattr(errors, name)("some words")

    def test_no_refusal_stands_under_another(self):
        for name in NAMES:
            for other in NAMES:
                if name != other:
                    with self.subTest(name=name, other=other):
                        self.assertFalse(issubclass(getattr(errors, name), getattr(errors, other)))


if __name__ == "__main__":
    unittest.main()
