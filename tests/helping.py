"""What the tests of single functions share: wrong values, and how refusals are looked at."""

from chancepoints.books import Book
from chancepoints.errors import TooMany

DEPTH = 299


def nested(make, inner, depth=DEPTH):
    for _ in range(depth):
        inner = make(inner)
    return inner


# Values of all kinds that are neither a kind, a weight, an expression, a name nor a table of any kind.
STRANGE = [
    None, True, False, 0, 1, -1, 7, 10 ** 79, "", "num", "fun", "x y", [], (), {}, {"x": 1}, [1], (1,),
    (True,), (None,), ("num",), ("num", 0), ("num", 7), ("num", True), ["num", 2], ("to", ("num", 2)),
    ("name",), ("name", "call"), ["name", "x"], ("number", 2, 2), (1, 2, 3), (0, 2), (1, 0), ("", ""),
    nested(lambda part: (part,), ()), nested(lambda part: [part], []), nested(lambda part: {"x": part}, {}),
    nested(lambda part: ("to", part, part), ("num", 2)), nested(lambda part: ("call", part, part), ("name", "x")),
    nested(lambda part: ("fun", "x", ("num", 2), part), ("name", "x"), 298), TooMany(4000), Book(),
]


def strange_but(*let):
    """All strange values but some, told by their equals of the same class."""
    def is_let(value):
        return any(type(value) is type(part) and value == part for part in let)
    return [value for value in STRANGE if not is_let(value)]


def snapshot(value, seen=None):
    """A copy in which lists and dicts are new, at every depth.

    Python's own deepcopy takes a tuple that stands twice in one value for two, and so forever
    for some of the strange values.
    """
    seen = {} if seen is None else seen
    if isinstance(value, list):
        return [snapshot(part, seen) for part in value]
    if isinstance(value, dict):
        return {word: snapshot(part, seen) for word, part in value.items()}
    if isinstance(value, tuple):
        if id(value) not in seen:
            parts = [snapshot(part, seen) for part in value]
            same = all(one is other for one, other in zip(parts, value))
            seen[id(value)] = value if same else tuple(parts)
        return seen[id(value)]
    return value


class Refusing:
    """For a test case: looks at what a function refuses."""

    def refused(self, error, function, *given, **named):
        with self.assertRaises(error) as caught:
            function(*given, **named)
        self.assertIs(type(caught.exception), error)
        return caught.exception

    def check_refusals(self, function, right, wrong):
        """right tells the parameters, in order, with right values; wrong is a list of triples
        (parameter, wrong values, error). Each wrong value is passed by position and by name,
        beside right values and with all later parameters wrong, too."""
        words = list(right)
        for word, values, error in wrong:
            for value in values:
                given = {**right, word: value}
                self.refused(error, function, **given)
                self.refused(error, function, *given.values())
                later = words[words.index(word) + 1:]
                self.refused(error, function, **{**given, **{part: None for part in later}})

    def check_calls(self, function, right, expected):
        """The result, by position and by name, twice; what is passed in stays as it was."""
        before = snapshot(list(right.values()))
        self.check_equal(expected, function(*right.values()))
        first = function(**right)
        self.check_equal(expected, first)
        self.assertEqual(before, list(right.values()))
        if isinstance(first, (list, dict)):
            first.clear()
            self.check_equal(expected, function(**right))

    def check_equal(self, expected, found):
        """Equal, and of the same classes at every depth: True is not taken for 1."""
        self.assertEqual(repr(expected), repr(found))
