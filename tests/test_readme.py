"""What README.md shows is what the program answers."""

import doctest
import unittest
from pathlib import Path

README = Path(__file__).resolve().parent.parent / "README.md"


class Readme(unittest.TestCase):
    def test_the_examples(self):
        result = doctest.testfile(str(README), module_relative=False, encoding="utf-8")
        self.assertGreater(result.attempted, 5)
        self.assertEqual(result.failed, 0)


if __name__ == "__main__":
    unittest.main()
