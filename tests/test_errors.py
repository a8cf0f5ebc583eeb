"""errors.py: point 5."""

import unittest

from chancepoints import errors

FIELDS = {"BadText": "at", "NoName": "name", "Taken": "name", "TooMany": "most", "Used": "name"}
PLAIN = (
    "BadBook BadBottom BadChances BadCoins BadExpression BadForm BadGrid BadKind BadKinds BadLength"
    " BadLine BadManner BadMany BadMost BadName BadNames BadNumber BadNumbers BadPass BadPath BadPaths"
    " BadProgram BadSure BadSurrounding BadTable BadTables BadTake BadTalk BadTalks BadTape BadThing"
    " BadThings BadWeight BadWeights NoChance NoMaker"
).split()


def told():
    return [getattr(errors, word) for word in PLAIN + list(FIELDS)]


class Errors(unittest.TestCase):
    def test_each_stands_directly_under_chance_error(self):
        self.assertEqual((ValueError,), errors.ChanceError.__bases__)
        self.assertEqual(41, len(told()))
        for error in told():
            self.assertEqual((errors.ChanceError,), error.__bases__)

    def test_each_is_defined_in_errors(self):
        for error in told() + [errors.ChanceError]:
            self.assertEqual("chancepoints.errors", error.__module__)

    def test_made_from_a_message(self):
        for word in PLAIN:
            made = getattr(errors, word)("the message")
            self.assertEqual("the message", str(made))
        self.assertEqual("all", str(errors.ChanceError("all")))

    def test_made_from_fields_by_position(self):
        for word, field in FIELDS.items():
            for value in ["x", 4000, None, ("any", [1]), {"x": 2}]:
                made = getattr(errors, word)(value)
                self.assertEqual(value, getattr(made, field))
                self.assertIsInstance(str(made), str)

    def test_fields_can_be_given_by_name(self):
        self.assertEqual(4000, errors.TooMany(most=4000).most)
        self.assertIsNone(errors.BadText(at=None).at)
        self.assertEqual("x", errors.NoName(name="x").name)
        self.assertEqual("x", errors.Taken(name="x").name)
        self.assertEqual("x", errors.Used(name="x").name)

    def test_none_is_caught_by_the_name_of_another_one(self):
        for one in told():
            self.assertTrue(issubclass(one, ValueError))
            for other in told():
                self.assertEqual(one is other, issubclass(one, other))

    def test_each_is_raised_and_caught_by_its_own_name(self):
        for error in told():
            with self.assertRaises(error):
                raise error("x")
            with self.assertRaises(errors.ChanceError):
                raise error("x")


if __name__ == "__main__":
    unittest.main()
