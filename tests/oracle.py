"""What the tests work out for themselves, by other ways than the package.

Expressions are run with closures here, all branches one by one, with Python's fractions.
Nothing of the package is used, so that a fault in it cannot hide itself.
"""

from fractions import Fraction

NUM2 = ("num", 2)
NUM3 = ("num", 3)


def num(k):
    return ("num", k)


def to(*kinds):
    """The kind with all but the last of kinds as arguments: to(A, B, C) is A to (B to C)."""
    made = kinds[-1]
    for kind in reversed(kinds[:-1]):
        made = ("to", kind, made)
    return made


def split(kind):
    found = []
    while kind[0] == "to":
        found.append(kind[1])
        kind = kind[2]
    return found, kind[1]


def nums(kind):
    return 1 if kind[0] == "num" else nums(kind[1]) + nums(kind[2])


def frac(weight):
    return Fraction(weight[0], weight[1])


def weight(fraction):
    fraction = Fraction(fraction)
    return (fraction.numerator, fraction.denominator)


def name(x):
    return ("name", x)


def number(n, k=2):
    return ("number", n, k)


def fun(x, kind, body):
    return ("fun", x, kind, body)


def call(called, *given):
    for part in given:
        called = ("call", called, part)
    return called


def case(asked, *ways):
    return ("case", asked, tuple(ways))


def draw(*weights):
    return ("draw", tuple(weights))


def take(x, taken, body):
    return ("take", x, taken, body)


def never(kind):
    return ("never", kind)


HALF = (1, 2)
COIN = draw(HALF, HALF)


# Runs of expressions. A thing is ("n", number), ("ask", place, kind) or ("run", expression, env).


def ways(expression, env, handed, around):
    """All ways of a run: a list of triples (calls, number, chance).

    handed are the things that wait, the newest first; around tells how many things are in
    sight of the points, so that tables of what is handed to an asked thing can be told.
    """
    word = expression[0]
    if word == "name":
        return ways_of_thing(env[expression[1]], handed, around)
    if word == "number":
        return [((), expression[1], Fraction(1))]
    if word == "fun":
        return ways(expression[3], {**env, expression[1]: handed[0]}, handed[1:], around)
    if word == "call":
        return ways(expression[1], env, [("run", expression[2], env)] + handed, around)
    if word == "draw":
        return [((), at, frac(part)) for at, part in enumerate(expression[1]) if part[0] > 0]
    if word == "never":
        return []
    found = []
    asked = expression[1] if word == "case" else expression[2]
    for calls, came, chance in ways(asked, env, [], around):
        if word == "case":
            behind = ways(expression[2][came], env, handed, around)
        else:
            behind = ways(expression[3], {**env, expression[1]: ("n", came)}, handed, around)
        for others, end, factor in behind:
            found.append((calls + others, end, chance * factor))
    return found


def ways_of_thing(thing, handed, around):
    if thing[0] == "n":
        return [((), thing[1], Fraction(1))]
    if thing[0] == "run":
        return ways(thing[1], thing[2], handed, around)
    _, place, kind = thing
    kinds, k = split(kind)
    tables = tuple(table_of_thing(part, inner, around) for part, inner in zip(handed, kinds))
    return [(((place, tables, b),), b, Fraction(1)) for b in range(k)]


def table_of_thing(thing, kind, around):
    """The table of a thing of this kind with so many things around, by running it."""
    kinds, k = split(kind)
    own = [("ask", around + at, part) for at, part in enumerate(kinds)]
    rows = [{} for _ in range(k)]
    for calls, number_, chance in ways_of_thing(thing, own, around + len(own)):
        point = tuple(sorted(calls))
        rows[number_][point] = rows[number_].get(point, 0) + chance
    return tuple(tuple(sorted((point, weight(row[point])) for point in row)) for row in rows)


def table_of(program, kind):
    """The table of a program of this kind: it is run, and what it is handed is asked."""
    return table_of_thing(("run", program, {}), kind, 0)


def chances_of(program, k):
    """The chances of the numbers of a program of a num, by running all branches."""
    found = [Fraction(0)] * k
    for _, came, chance in ways(program, {}, [], 0):
        found[came] += chance
    return tuple(weight(part) for part in found)


def table_size(table):
    """Points and calls in a table, counted by a walk."""
    found = 0
    for row in table:
        for point, _ in row:
            found += 1
            for _, tables, _ in point:
                found += 1 + sum(table_size(part) for part in tables)
    return found


def nodes(expression):
    """All expressions in an expression, with their paths."""
    found = [((), expression)]
    word = expression[0]
    inner = []
    if word == "fun":
        inner = [((3,), expression[3])]
    elif word == "call":
        inner = [((1,), expression[1]), ((2,), expression[2])]
    elif word == "case":
        inner = [((1,), expression[1])] + [((2, n), g) for n, g in enumerate(expression[2])]
    elif word == "take":
        inner = [((2,), expression[2]), ((3,), expression[3])]
    for steps, part in inner:
        found.extend((steps + path, node) for path, node in nodes(part))
    return found


# Random programs, told by a random source with a fixed seed.


KINDS = [
    num(1), num(2), num(2), num(3), to(NUM2, NUM2), to(NUM3, NUM2), to(NUM2, NUM2, NUM3),
    to(to(NUM2, NUM2), NUM2), to(to(NUM2, NUM2), NUM3, NUM2), to(to(to(NUM2, NUM2), NUM2), NUM2),
]


def random_weights(source, k, whole):
    parts = [source.randrange(0, 4) for _ in range(k)]
    if sum(parts) == 0:
        parts[source.randrange(k)] = 1
    bottom = sum(parts) if whole else sum(parts) + source.randrange(0, 4)
    return tuple(weight(Fraction(part, bottom)) for part in parts)


class Maker:
    """Makes random expressions of told kinds."""

    def __init__(self, source, whole=False, kinds=None, letters="abcxyz", busy=False):
        self.source = source
        self.whole = whole
        self.busy = busy
        self.kinds = kinds or KINDS
        self.letters = letters

    def make(self, kind, deep, env=None):
        env = env or {}
        fitting = [x for x in env if env[x] == kind]
        if fitting and self.source.random() < 0.35:
            return name(self.source.choice(fitting))
        if deep <= 0:
            return self.leaf(kind, fitting, env)
        choices = ["call", "case", "take", "applied", "applied"]
        if kind[0] == "to":
            choices += ["fun"] * 6
        else:
            choices += ["draw"]
        if self.busy:
            choices += ["redex"] * 4
        return getattr(self, "make_" + self.source.choice(choices))(kind, deep - 1, env)

    def leaf(self, kind, fitting, env):
        if fitting:
            return name(self.source.choice(fitting))
        if kind[0] == "to":
            return self.make_fun(kind, 0, env)
        if self.source.random() < 0.4:
            return self.make_draw(kind, 0, env)
        if not self.whole and self.source.random() < 0.1:
            return never(kind)
        return number(self.source.randrange(kind[1]), kind[1])

    def make_fun(self, kind, deep, env):
        x = self.source.choice(self.letters)
        return fun(x, kind[1], self.make(kind[2], deep, {**env, x: kind[1]}))

    def make_call(self, kind, deep, env):
        given = self.source.choice(self.kinds)
        if nums(given) + nums(kind) > 12:
            return self.make_case(kind, deep, env)
        return call(self.make(("to", given, kind), deep, env), self.make(given, deep, env))

    def make_redex(self, kind, deep, env):
        """A function that is handed something that it is likely to use."""
        given = self.source.choice([kind for kind in self.kinds if nums(kind) <= 4])
        if nums(given) + nums(kind) > 12:
            return self.make_case(kind, deep, env)
        x = self.source.choice(self.letters)
        return call(fun(x, given, self.make(kind, deep, {**env, x: given})), self.make(given, deep - 1, env))

    def make_applied(self, kind, deep, env):
        """A name that is handed all that it wants, if there is one that answers so."""
        fitting = []
        for x in env:
            kinds, k = split(env[x])
            if kinds and num(k) == kind:
                fitting.append(x)
        if not fitting:
            return self.make_case(kind, deep, env)
        x = self.source.choice(fitting)
        return call(name(x), *[self.make(part, deep, env) for part in split(env[x])[0]])

    def make_case(self, kind, deep, env):
        k = self.source.choice([1, 2, 2, 3])
        return case(self.make(num(k), deep, env), *[self.make(kind, deep, env) for _ in range(k)])

    def make_take(self, kind, deep, env):
        k = self.source.choice([1, 2, 2, 3])
        x = self.source.choice(self.letters)
        return take(x, self.make(num(k), deep, env), self.make(kind, deep, {**env, x: num(k)}))

    def make_draw(self, kind, deep, env):
        return ("draw", random_weights(self.source, kind[1], self.whole))


def parts_of(expression):
    """The expressions that stand directly in this one."""
    word = expression[0]
    if word == "fun":
        return [expression[3]]
    if word == "call":
        return [expression[1], expression[2]]
    if word == "case":
        return [expression[1]] + list(expression[2])
    if word == "take":
        return [expression[2], expression[3]]
    return []


def measured(expression):
    """How many nodes and levels an expression has; level by level, so it may have thousands."""
    row = [expression]
    many = levels = 0
    while row:
        many, levels = many + len(row), levels + 1
        row = [part for node in row for part in parts_of(node)]
    return many, levels


def is_small(expression):
    """Whether an expression keeps the limits of nodes and levels."""
    many, levels = measured(expression)
    return many <= 300 and levels <= 50
