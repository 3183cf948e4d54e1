"""Test that the examples of README.md give what they show."""

import doctest
import unittest
from pathlib import Path

README = Path(__file__).resolve().parent.parent / "README.md"


class ReadmeTest(unittest.TestCase):
    def test_the_examples(self):
        failed, tried = doctest.testfile(str(README), module_relative=False, encoding="utf-8")
        self.assertEqual(failed, 0)
        self.assertGreater(tried, 5)


if __name__ == "__main__":
    unittest.main()
