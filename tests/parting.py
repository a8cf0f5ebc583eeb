"""What the tests of surroundings that part programs share."""

from chancepoints.alike import put_in
from chancepoints.errors import BadExpression, TooMany
from chancepoints.weighing import chances_of, chances_with
from tests.oracle import name


def rounds():
    found = [(a, b, c) for a in range(1, 8) for b in range(1, 8) for c in range(1, 8)]
    return sorted(found, key=lambda told: (sum(told), told))[:35]


class Parting:
    """For a test case: looks at the round by which two programs are parted."""

    def check_parting(self, kind, one, other, parting, telling, are_alike):
        """The round that parts two programs, None if they are alike, compared with all rounds ahead of it."""
        found = parting(one, other)
        if are_alike(one, other):
            self.assertIsNone(found)
            return None
        told, surrounding, chances_one, chances_other = found
        for ahead in rounds():
            try:
                expected = telling(kind, *ahead)
            except TooMany:
                self.assertNotEqual(ahead, told)
                continue
            pair = self.put(kind, expected, one), self.put(kind, expected, other)
            if ahead == told:
                break
            self.assertEqual(*pair)
        self.assertEqual(expected, surrounding)
        self.check_equal((chances_one, chances_other), pair)
        self.assertNotEqual(*pair)
        return told

    def put(self, kind, surrounding, program):
        try:
            return chances_of(put_in(kind, surrounding, program))
        except BadExpression:
            things = []
            while surrounding != name("h"):
                _, surrounding, thing = surrounding
                things.insert(0, thing)
            return chances_with(program, things)
