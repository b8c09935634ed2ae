"""The examples in README.md are answered as they stand there."""

import doctest
import pathlib
import unittest

README = pathlib.Path(__file__).resolve().parent.parent / "README.md"


class TestReadme(unittest.TestCase):
    def test_its_examples(self):
        result = doctest.testfile(str(README), module_relative=False)
        self.assertGreater(result.attempted, 0)
        self.assertEqual(result.failed, 0)


if __name__ == "__main__":
    unittest.main()
