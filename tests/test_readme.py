"""The examples in README.md."""

import doctest
import os
import unittest

README = os.path.join(os.path.dirname(os.path.dirname(os.path.abspath(__file__))), "README.md")


class Readme(unittest.TestCase):
    def test_examples(self):
        found = doctest.testfile(README, module_relative=False)
        self.assertEqual(0, found.failed)
        self.assertGreater(found.attempted, 10)


if __name__ == "__main__":
    unittest.main()
