"""Runs of programs of a number by the words of point 31, one expression at a time.

What waits is a list, the newest one last; nothing of the package is used.
"""

from fractions import Fraction

from tests.oracle import frac, weight


class More(Exception):
    """The choices are used up; choices tells those that there are now."""

    def __init__(self, choices):
        Exception.__init__(self, choices)
        self.choices = choices


class Short(Exception):
    """There is no item left for a draw."""


def part_at(expression, path):
    for step in path:
        expression = expression[step]
    return expression


class Walk:
    """One run. choose is a function from a draw's weights to a number, or None."""

    def __init__(self, program, choose):
        self.program = program
        self.choose = choose
        self.path, self.env = (), {}
        self.waiting = []
        self.draws = []
        self.done = 0
        self.end = None

    def waits(self):
        """What waits, the newest first, as pairs of a word and a path."""
        return [(word, path) for word, path, _ in reversed(self.waiting)]

    def step(self):
        expression = part_at(self.program, self.path)
        path, env, word = self.path, self.env, expression[0]
        if word == "name":
            meant = env[expression[1]]
            if isinstance(meant, int):
                self.give(meant)
            else:
                self.path, self.env = meant
        elif word == "number":
            self.give(expression[1])
        elif word == "fun":
            kind, handed, names = self.waiting.pop()
            assert kind == "handed"
            self.path, self.env = path + (3,), {**env, expression[1]: (handed, names)}
        elif word == "call":
            self.waiting.append(("handed", path + (2,), env))
            self.path = path + (1,)
        elif word == "case":
            self.waiting.append(("case", path, env))
            self.path = path + (1,)
        elif word == "take":
            self.waiting.append(("take", path, env))
            self.path = path + (2,)
        elif word == "draw":
            number = self.choose(expression[1])
            self.draws.append((path, number))
            if number is None:
                self.finish(("none",))
            else:
                self.give(number)
        else:
            self.finish(("none",))
        self.done += 1

    def finish(self, end):
        self.end = end
        self.path = None

    def give(self, number):
        if not self.waiting:
            self.finish(("answer", number))
            return
        word, path, env = self.waiting.pop()
        if word == "case":
            self.path, self.env = path + (2, number), env
        else:
            self.path, self.env = path + (3,), {**env, part_at(self.program, path)[1]: number}


def choices_of(weights):
    """Pairs of a number and its chance, None for no answer."""
    found = [(number, frac(part)) for number, part in enumerate(weights) if part[0] > 0]
    left = 1 - sum(frac(part) for part in weights)
    return found + ([(None, left)] if left else [])


def scripted(script):
    left = list(script)

    def choose(weights):
        if not left:
            raise More(choices_of(weights))
        return left.pop(0)
    return choose


def all_walks(program, most=None):
    """All branches in order: quadruples (draws, answer, weight, how often each path was run).

    None if there are more than most.
    """
    found = []
    waiting = [((), Fraction(1))]
    while waiting:
        script, chance = waiting.pop()
        walk = Walk(program, scripted(script))
        counts = {}
        try:
            while walk.end is None:
                path = walk.path
                counts[path] = counts.get(path, 0) + 1
                walk.step()
        except More as more:
            for number, part in reversed(more.choices):
                waiting.append((script + (number,), chance * part))
            continue
        answer = walk.end[1] if walk.end[0] == "answer" else None
        found.append((tuple(walk.draws), answer, weight(chance), counts))
        if most is not None and len(found) > most:
            return None
    return found
