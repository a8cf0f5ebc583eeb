"""Runs of programs by the three manners, worked out without code, rows or frames.

A program is run as an expression, by functions that call one another; each choice of a draw is
told ahead by a script. All scripts are tried, so all branches are gone through.
"""

from fractions import Fraction

from tests.oracle import split, weight

WORDS = {
    "name": "look", "number": "number", "fun": "grab", "call": "hand", "case": "case", "draw": "draw",
    "take": "take", "never": "never",
}


class More(Exception):
    """The script is too short; most tells how many choices there are."""

    def __init__(self, choices):
        Exception.__init__(self, choices)
        self.choices = choices


class NoAnswer(Exception):
    pass


class Trial:
    """One run by a script: a list of indexes of choices among the weights above nothing."""

    def __init__(self, manner, script):
        self.manner = manner
        self.script = script
        self.read = 0
        self.calls = []
        self.new_rows = {word: 0 for word in WORDS.values()}

    def done(self, expression):
        # Rows ahead of the last choice were counted when the shorter script was tried.
        if self.read == len(self.script):
            self.new_rows[WORDS[expression[0]]] += 1

    def run(self, expression, env, handed):
        self.done(expression)
        word = expression[0]
        if word == "name":
            return self.use(env[expression[1]], handed)
        if word == "number":
            return expression[1]
        if word == "never":
            raise NoAnswer()
        if word == "draw":
            return self.choose(expression[1])
        if word == "fun":
            return self.run(expression[3], {**env, expression[1]: handed[0]}, handed[1:])
        if word == "call":
            return self.run(expression[1], env, [self.hand(expression[2], env)] + handed)
        if word == "case":
            return self.run(expression[2][self.run(expression[1], env, [])], env, handed)
        taken = self.run(expression[2], env, [])
        return self.run(expression[3], {**env, expression[1]: {"kind": None, "known": taken}}, handed)

    def hand(self, expression, env):
        kind = kind_in(expression, env)
        thing = {"kind": kind, "known": None, "expression": expression, "env": env}
        if self.manner == "value" and kind[0] == "num":
            thing["known"] = self.run(expression, env, [])
        return thing

    def use(self, thing, handed):
        if thing["known"] is not None:
            return thing["known"]
        if "asked" in thing:
            came = self.ask(thing)
        else:
            came = self.run(thing["expression"], thing["env"], handed)
        if self.manner == "need" and thing["kind"][0] == "num":
            thing["known"] = came
        return came

    def ask(self, thing):
        came = self.choose([(1, 1)] * thing["kind"][1])
        self.calls.append((thing["asked"], (), came))
        return came

    def handed_unknown(self, kinds):
        """Things of which nothing is known; by value they are asked now."""
        things = [{"kind": kind, "known": None, "asked": v} for v, kind in enumerate(kinds)]
        if self.manner == "value":
            for thing in things:
                thing["known"] = self.ask(thing)
        return things

    def choose(self, weights):
        choices = [(number, Fraction(*part)) for number, part in enumerate(weights) if part[0] > 0]
        if self.read == len(self.script):
            raise More(choices)
        number = choices[self.script[self.read]][0]
        self.read += 1
        return number


def kind_in(expression, env):
    """The kind of an expression where names stand for things with kinds; these have one."""
    word = expression[0]
    if word == "name":
        found = env[expression[1]]
        return found if isinstance(found, tuple) else found["kind"] or ("num", None)
    if word == "number":
        return ("num", expression[2])
    if word == "draw":
        return ("num", len(expression[1]))
    if word == "never":
        return expression[1]
    if word == "fun":
        return ("to", expression[2], kind_in(expression[3], {**env, expression[1]: expression[2]}))
    if word == "call":
        return kind_in(expression[1], env)[2]
    if word == "case":
        return kind_in(expression[2][0], env)
    return kind_in(expression[3], {**env, expression[1]: ("num", None)})


def all_trials(program, manner, k):
    """The triple of chances of the numbers, works by words, and how many branches there are."""
    chances = [Fraction(0)] * k
    works = {word: Fraction(0) for word in sorted(WORDS.values())}
    branches = 0
    waiting = [((), Fraction(1))]
    while waiting:
        script, chance = waiting.pop()
        trial = Trial(manner, list(script))
        try:
            chances[trial.run(program, {}, [])] += chance
            branches += 1
        except NoAnswer:
            branches += 1
        except More as more:
            for at, (_, part) in enumerate(more.choices):
                waiting.append((script + (at,), chance * part))
        for word, many in trial.new_rows.items():
            works[word] += many * chance
    told = {word: weight(work) for word, work in works.items()}
    return tuple(weight(part) for part in chances), told, branches


def asked_trials(program, manner, kind):
    """The pair of the table of a program handed things that are asked, and of how many branches."""
    kinds, k = split(kind)
    rows = [{} for _ in range(k)]
    branches = 0
    waiting = [((), Fraction(1))]
    while waiting:
        script, chance = waiting.pop()
        trial = Trial(manner, list(script))
        try:
            came = trial.run(program, {}, trial.handed_unknown(kinds))
            point = tuple(sorted(trial.calls))
            rows[came][point] = rows[came].get(point, 0) + chance
            branches += 1
        except NoAnswer:
            branches += 1
        except More as more:
            for at, (_, part) in enumerate(more.choices):
                waiting.append((script + (at,), chance * part))
    table = tuple(tuple((point, weight(row[point])) for point in sorted(row)) for row in rows)
    return table, branches
