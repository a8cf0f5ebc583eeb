"""nodes.py: the row of names a, b, .., z, aa, ab, .., by which points 35, 54, 57, 62 and 67 call things."""

import unittest
from itertools import product

from chancepoints.nodes import nth_name
from tests.talking import letters

ALPHABET = "abcdefghijklmnopqrstuvwxyz"


class NthName(unittest.TestCase):
    def test_all_up_to_four_letters(self):
        at = 0
        for many in (1, 2, 3, 4):
            for word in product(ALPHABET, repeat=many):
                if nth_name(at) != "".join(word):
                    self.fail(f"{at}: {nth_name(at)}")
                at += 1
        self.assertEqual(26 + 26 ** 2 + 26 ** 3 + 26 ** 4, at)

    def test_where_a_letter_is_added(self):
        for at, word in ((0, "a"), (25, "z"), (26, "aa"), (27, "ab"), (51, "az"), (52, "ba"), (701, "zz"), (702, "aaa")):
            self.assertEqual(word, nth_name(at))
        self.assertEqual(["zzz", "aaaa"], [nth_name(26 + 26 ** 2 + 26 ** 3 + less) for less in (-1, 0)])

    def test_as_the_tests_tell_it(self):
        for at in [*range(2000), 10 ** 6, 10 ** 9, 10 ** 79]:
            self.assertEqual(letters(at), nth_name(at))


if __name__ == "__main__":
    unittest.main()
