"""Talks by the words of points 33 to 36, and all that may happen where talks meet.

Nothing of the package is used.
"""

from fractions import Fraction

from tests.oracle import frac, split, weight

ANSWER0, ANSWER1 = ("answer", 0), ("answer", 1)
NONE = ("none",)


def ask(v, *rows, handed=()):
    return ("ask", v, tuple(handed), tuple(rows))


def drawing(*rows):
    return ("draw", tuple(rows))


def parts_of(talk):
    """The talks directly in a talk."""
    if talk[0] == "draw":
        return [part for _, part in talk[1]]
    if talk[0] == "ask":
        return list(talk[2]) + list(talk[3])
    return []


def measured(talk):
    """How many parts a talk has, and how many of them stand in a row."""
    inner = [measured(part) for part in parts_of(talk)]
    return 1 + sum(many for many, _ in inner), 1 + max([row for _, row in inner], default=0)


class TooLarge(Exception):
    pass


class Talker:
    """The talk of a program, by continuations: what is done with a number is a function."""

    def __init__(self, most=4000):
        self.left = most

    def count(self):
        self.left -= 1
        if self.left < 0:
            raise TooLarge()

    def talk_of(self, program, kind):
        return self.of_thing(lambda handed, then, kinds: self.run(program, {}, handed, then, kinds), kind, [])

    def of_thing(self, thing, kind, kinds):
        """The talk of a thing, a function from what it is handed, what is done then, the kinds around."""
        own, _ = split(kind)
        inner = kinds + own
        handed = [self.asked(len(kinds) + at) for at in range(len(own))]
        return thing(handed, self.answer, inner)

    def answer(self, number, kinds):
        self.count()
        return ("answer", number)

    def asked(self, v):
        def thing(handed, then, kinds):
            self.count()
            own, k = split(kinds[v])
            given = [self.of_thing(part, kind, kinds) for part, kind in zip(handed, own)]
            return ("ask", v, tuple(given), tuple([then(b, kinds) for b in range(k)]))
        return thing

    def run(self, expression, env, handed, then, kinds):
        word = expression[0]
        if word == "name":
            return env[expression[1]](handed, then, kinds)
        if word == "number":
            return then(expression[1], kinds)
        if word == "fun":
            return self.run(expression[3], {**env, expression[1]: handed[0]}, handed[1:], then, kinds)
        if word == "call":
            given = expression[2]
            def thing(inner, after, around):
                return self.run(given, env, inner, after, around)
            return self.run(expression[1], env, [thing] + handed, then, kinds)
        if word == "case":
            def choose(number, around):
                return self.run(expression[2][number], env, handed, then, around)
            return self.run(expression[1], env, [], choose, kinds)
        if word == "take":
            def taken(number, around):
                def known(inner, after, further):
                    return after(number, further)
                return self.run(expression[3], {**env, expression[1]: known}, handed, then, around)
            return self.run(expression[2], env, [], taken, kinds)
        if word == "draw":
            rows = [(number, part) for number, part in enumerate(expression[1]) if part[0] > 0]
            if rows:
                self.count()
                return ("draw", tuple([(part, then(number, kinds)) for number, part in rows]))
        self.count()
        return NONE


def told_table(talk, kind, around=()):
    """The table that a talk tells, all ways through it one by one."""
    own, k = split(kind)
    kinds = list(around) + own
    rows = [{} for _ in range(k)]
    for calls, answer, chance in ways_through(talk, kinds):
        point = tuple(sorted(calls))
        rows[answer][point] = rows[answer].get(point, 0) + chance
    return tuple(tuple((point, weight(row[point])) for point in sorted(row)) for row in rows)


def ways_through(talk, kinds):
    if talk[0] == "answer":
        return [((), talk[1], Fraction(1))]
    if talk[0] == "none":
        return []
    if talk[0] == "draw":
        return [(calls, b, frac(part) * chance) for part, row in talk[1] for calls, b, chance in ways_through(row, kinds)]
    _, v, handed, rows = talk
    tables = tuple(told_table(part, kind, kinds) for part, kind in zip(handed, split(kinds[v])[0]))
    found = []
    for i, row in enumerate(rows):
        found.extend([(((v, tables, i),) + calls, b, chance) for calls, b, chance in ways_through(row, kinds)])
    return found


def letters(v):
    """The v-th name of the row a, b, .., z, aa, ab, .."""
    word = ""
    v += 1
    while v > 0:
        v, rest = divmod(v - 1, 26)
        word = chr(ord("a") + rest) + word
    return word


def program_by_words(talk, kind, around=()):
    own, k = split(kind)
    kinds = list(around) + own

    def body(part):
        if part[0] == "answer":
            return ("number", part[1], k)
        if part[0] == "none":
            return ("never", ("num", k))
        if part[0] == "draw":
            return ("case", ("draw", tuple(share for share, _ in part[1])), tuple(body(row) for _, row in part[1]))
        asked = ("name", letters(part[1]))
        for inner, given in zip(part[2], split(kinds[part[1]])[0]):
            asked = ("call", asked, program_by_words(inner, given, kinds))
        return ("case", asked, tuple(body(row) for row in part[3]))
    made = body(talk)
    for at in range(len(own) - 1, -1, -1):
        made = ("fun", letters(len(around) + at), own[at], made)
    return made


def meetings(talk, things, most=2000):
    """All that happens where a talk meets those of its own things: triples (answer, counts, chance).

    A thing is a triple: its talk, the things around it, and its place among those that are
    counted, or None. TooLarge is raised if it takes more than most steps.
    """
    left = [most]
    told = [(part, [], at) for at, part in enumerate(things)]
    return go_on(talk, told, (0,) * len(things), lambda b, counts: [(b, counts, Fraction(1))], left)


def go_on(talk, sight, counts, then, left):
    left[0] -= 1
    if left[0] < 0:
        raise TooLarge()
    if talk[0] == "answer":
        return then(talk[1], counts)
    if talk[0] == "none":
        return [(None, counts, Fraction(1))]
    if talk[0] == "draw":
        found = []
        lost = Fraction(1)
        for part, row in talk[1]:
            lost -= frac(part)
            found.extend([(b, more, frac(part) * chance) for b, more, chance in go_on(row, sight, counts, then, left)])
        return found + ([(None, counts, lost)] if lost else [])
    _, v, handed, rows = talk
    asked, around, place = sight[v]
    if place is not None:
        counts = counts[:place] + (counts[place] + 1,) + counts[place + 1:]
    inner = list(around) + [(part, sight, None) for part in handed]
    return go_on(asked, inner, counts, lambda b, more: go_on(rows[b], sight, more, then, left), left)


class TalkMaker:
    """Random closed talks."""

    def __init__(self, source):
        self.source = source

    def talk(self, kind, deep, around=()):
        own, k = split(kind)
        return self.part(list(around) + own, k, deep)

    def part(self, kinds, k, deep):
        if deep <= 0 or self.source.random() < 0.1:
            return NONE if self.source.random() < 0.15 else ("answer", self.source.randrange(k))
        if not kinds or self.source.random() < 0.3:
            many = self.source.randrange(1, 4)
            parts = [self.source.randrange(1, 4) for _ in range(many)]
            bottom = sum(parts) + self.source.randrange(3)
            return drawing(*[(weight(Fraction(part, bottom)), self.part(kinds, k, deep - 1)) for part in parts])
        v = self.source.randrange(len(kinds))
        inner, j = split(kinds[v])
        handed = [self.talk(part, deep - 2, kinds) for part in inner]
        return ask(v, *[self.part(kinds, k, deep - 1) for _ in range(j)], handed=handed)
