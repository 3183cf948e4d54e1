"""Test that the examples of README.md, and those of DOC.md, give what they show."""

import doctest
import unittest
from pathlib import Path

TESTS = Path(__file__).resolve().parent


class ExamplesTest(unittest.TestCase):
    def check(self, path, fewest):
        failed, tried = doctest.testfile(str(path), module_relative=False, encoding="utf-8")
        self.assertEqual(failed, 0)
        self.assertGreaterEqual(tried, fewest)

    def test_the_examples_of_the_readme(self):
        self.check(TESTS.parent / "README.md", 20)

    def test_the_examples_of_the_document(self):
        self.check(TESTS / "examples.txt", 12)


if __name__ == "__main__":
    unittest.main()
