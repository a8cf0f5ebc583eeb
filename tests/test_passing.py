"""passing.py: points 62 and 63."""

import random
import unittest

from chancepoints.alike import alike, alike_parts
from chancepoints.asking import asked, folded, spread
from chancepoints.coding import compiled, source_of
from chancepoints.errors import BadPass, BadProgram, TooMany
from chancepoints.manners import run_by
from chancepoints.meaning import table
from chancepoints.passing import are_last, last_form, passed, passes
from chancepoints.terms import is_program, kind_of, part_at
from tests.helping import Refusing, STRANGE
from tests.oracle import (
    COIN, HALF, KINDS, Maker, call, case, draw, fun, is_small, measured, name, never, nodes, num, number, split, take, to,
)
from tests.shapes import X
from tests.talking import letters as letters_at
from tests.test_manners import NO_PROGRAMS, composed, numbered
from tests.test_runs import DRAWN
from tests.walks import all_walks

N1, N2, N3 = num(1), num(2), num(3)
F = to(N2, N2)
G = to(F, N2)
A, B, C = name("a"), name("b"), name("c")
ZERO, ONE = number(0, 2), number(1, 2)
EXAMPLE = call(fun("x", N2, case(X, X, ONE)), COIN)
WORDS = ["chosen", "drawn", "hand", "inner", "moved", "never", "taken"]
# Plain programs that keep their names.
ASKS = fun("a", N2, case(A, A, ONE))


def put(expression, x, part):
    """The expression with part in the place of each free x."""
    if expression == name(x):
        return part
    if expression[0] in ("fun", "take") and expression[1] == x:
        if expression[0] == "take":
            return ("take", x, put(expression[2], x, part), expression[3])
        return expression
    return rebuilt(expression, lambda inner: put(inner, x, part))


def rebuilt(expression, change):
    word = expression[0]
    if word == "fun":
        return expression[:3] + (change(expression[3]),)
    if word == "call":
        return ("call", change(expression[1]), change(expression[2]))
    if word == "case":
        return ("case", change(expression[1]), tuple(change(part) for part in expression[2]))
    if word == "take":
        return ("take", expression[1], change(expression[2]), change(expression[3]))
    return expression


class Namer:
    """Exchanges all names for new ones, in the order of the bindings."""

    def __init__(self, letters):
        self.letters = letters
        self.used = 0

    def named(self, expression, env=None):
        env = env or {}
        if expression[0] == "name":
            return name(env[expression[1]])
        if expression[0] in ("fun", "take"):
            x = self.letters(self.used)
            self.used += 1
            inner = {**env, expression[1]: x}
            if expression[0] == "fun":
                return ("fun", x, expression[2], self.named(expression[3], inner))
            return ("take", x, self.named(expression[2], env), self.named(expression[3], inner))
        return rebuilt(expression, lambda part: self.named(part, env))


def kind_in(expression, kinds):
    word = expression[0]
    if word == "name":
        return kinds[expression[1]]
    if word == "number":
        return num(expression[2])
    if word == "fun":
        return ("to", expression[2], kind_in(expression[3], {**kinds, expression[1]: expression[2]}))
    if word == "call":
        return kind_in(expression[1], kinds)[2]
    if word == "case":
        return kind_in(expression[2][0], kinds)
    if word == "draw":
        return num(len(expression[1]))
    if word == "take":
        return kind_in(expression[3], {**kinds, expression[1]: kind_in(expression[2], kinds)})
    return expression[1]


def one_pass(part, kinds):
    """The pair of the word of the pass at an expression, and what comes; None if there is none."""
    word = part[0]
    if word == "call":
        e, f = part[1], part[2]
        if e[0] == "fun":
            return "hand", put(e[3], e[1], f)
        if e[0] == "case":
            return "moved", ("case", e[1], tuple(call(g, f) for g in e[2]))
        if e[0] == "take":
            return "moved", take(e[1], e[2], call(e[3], f))
        if e[0] == "never":
            return "never", never(e[1][2])
    if word == "case":
        e, gs = part[1], part[2]
        if e[0] == "number":
            return "chosen", gs[e[1]]
        if e[0] == "case":
            return "inner", ("case", e[1], tuple(("case", g, gs) for g in e[2]))
        if e[0] == "never":
            return "never", never(kind_in(gs[0], kinds))
    if word == "take":
        k = kind_in(part[2], kinds)[1]
        return "taken", case(part[2], *[put(part[3], part[1], number(n, k)) for n in range(k)])
    if word == "draw":
        for n, worth in enumerate(part[1]):
            if worth == (1, 1):
                return "drawn", number(n, len(part[1]))
        if all(worth == (0, 1) for worth in part[1]):
            return "drawn", never(num(len(part[1])))
    return None


def kinds_around(program, path):
    found = {}
    for at, part in nodes(program):
        if len(at) < len(path) and path[:len(at)] == at and path[len(at)] == 3 and part[0] in ("fun", "take"):
            found[part[1]] = part
    kinds = {}
    for x, part in found.items():
        kinds[x] = part[2] if part[0] == "fun" else kind_in(part[2], kinds)
    return kinds


def exchanged(expression, path, part):
    if not path:
        return part
    if isinstance(expression[path[0]], tuple) and path[0] == 2 and expression[0] == "case":
        rows = list(expression[2])
        rows[path[1]] = exchanged(rows[path[1]], path[2:], part)
        return ("case", expression[1], tuple(rows))
    made = list(expression)
    made[path[0]] = exchanged(expression[path[0]], path[1:], part)
    return tuple(made)


def plain_names(program):
    return Namer(letters_at).named(program)


def all_passes(program):
    """The dict from passes to the programs that come, of any size."""
    named = plain_names(program)
    found = {}
    for path, part in nodes(named):
        told = one_pass(part, kinds_around(named, path))
        if told is not None:
            found[(told[0], path)] = exchanged(named, path, told[1])
    return found


class TooLarge(Exception):
    pass


def slow_last_form(program, source, most=1500):
    """What passes lead to, done in any order that source tells, one at a time."""
    fresh = [0]

    def letters(_):
        fresh[0] += 1
        return "v" + letters_at(fresh[0])
    steps = 0
    while True:
        program = Namer(letters).named(program)
        found = list(some_passes(program))
        if not found:
            return plain_names(program)
        path, part = source.choice(found)
        program = exchanged(program, path, part)
        steps += 1
        if measured(program)[0] > most or measured(program)[1] > 150 or steps > 300:
            raise TooLarge()


def some_passes(program):
    for path, part in nodes(program):
        told = one_pass(part, kinds_around(program, path))
        if told is not None:
            yield path, told[1]


class Passes(unittest.TestCase, Refusing):
    def check(self, program, expected):
        """expected is a dict from passes to what comes."""
        self.check_calls(passes, {"program": program}, sorted(expected))
        for (word, path), made in expected.items():
            self.check_calls(passed, {"program": program, "word": word, "path": path}, made)

    def test_none(self):
        for program in (COIN, ONE, never(F), ASKS, fun("x", F, X), fun("x", F, call(X, COIN)), case(COIN, COIN, ONE)):
            self.check(program, {})

    def test_hand(self):
        self.check(EXAMPLE, {("hand", ()): case(COIN, COIN, ONE)})
        self.check(call(fun("x", N2, ZERO), COIN), {("hand", ()): ZERO})
        self.check(fun("y", N2, call(fun("y", N2, name("y")), name("y"))), {("hand", (3,)): fun("a", N2, A)})
        # What is handed keeps what it stands for.
        inner = fun("y", N2, call(fun("x", N2, fun("y", N2, case(X, name("y"), ONE))), name("y")))
        self.check(inner, {("hand", (3,)): fun("a", N2, fun("b", N2, case(A, B, ONE)))})

    def test_names_ahead_and_behind(self):
        program = fun("u", N2, call(fun("v", F, call(name("v"), call(name("v"), name("u")))), fun("w", N2, name("w"))))
        handed = fun("a", N2, call(fun("b", N2, B), call(fun("c", N2, C), A)))
        self.check(program, {("hand", (3,)): handed})
        self.check(handed, {
            ("hand", (3,)): fun("a", N2, call(fun("b", N2, B), A)), ("hand", (3, 2)): fun("a", N2, call(fun("b", N2, B), A)),
        })

    def test_moved(self):
        one, other = fun("x", N2, X), fun("x", N2, ONE)
        self.check(call(case(COIN, one, other), ZERO), {
            ("moved", ()): case(COIN, call(fun("a", N2, A), ZERO), call(fun("b", N2, ONE), ZERO)),
        })
        taking = call(take("x", COIN, fun("y", N2, case(X, name("y"), ONE))), ZERO)
        found = take("a", COIN, call(fun("b", N2, case(A, B, ONE)), ZERO))
        self.check(taking, {
            ("moved", ()): found,
            ("taken", (1,)): call(case(COIN, fun("a", N2, case(ZERO, A, ONE)), fun("b", N2, case(ONE, B, ONE))), ZERO),
        })

    def test_chosen_and_inner(self):
        self.check(case(ONE, COIN, never(N2)), {("chosen", ()): never(N2)})
        self.check(case(number(2, 3), ZERO, ONE, COIN), {("chosen", ()): COIN})
        self.check(case(number(0, 1), ASKS), {("chosen", ()): ASKS})
        program = case(case(COIN, ZERO, COIN), ONE, never(N2))
        self.check(program, {("inner", ()): case(COIN, case(ZERO, ONE, never(N2)), case(COIN, ONE, never(N2)))})

    def test_taken_of_numbers_of_each_kind(self):
        for k in range(1, 7):
            taken = fun("a", num(k), take("b", A, case(B, *[number(n, k) for n in reversed(range(k))])))
            expected = fun("a", num(k), case(A, *[case(number(n, k), *[number(m, k) for m in reversed(range(k))]) for n in range(k)]))
            self.check(taken, {("taken", (3,)): expected})
        self.check(take("x", COIN, ZERO), {("taken", ()): case(COIN, ZERO, ZERO)})
        self.check(take("x", COIN, case(X, X, X)), {("taken", ()): case(COIN, case(ZERO, ZERO, ZERO), case(ONE, ONE, ONE))})
        # A name that is bound again.
        self.check(take("x", COIN, take("x", X, X)), {
            ("taken", ()): case(COIN, take("a", ZERO, A), take("b", ONE, B)), ("taken", (3,)): take("a", COIN, case(A, ZERO, ONE)),
        })

    def test_never(self):
        self.check(call(never(to(N3, F)), number(0, 3)), {("never", ()): never(F)})
        self.check(case(never(N2), ASKS, fun("x", N2, X)), {("never", ()): never(F)})
        self.check(case(never(N1), number(0, 3)), {("never", ()): never(N3)})
        self.check(fun("x", N3, case(never(N1), X)), {("never", (3,)): fun("a", N3, never(N3))})

    def test_drawn(self):
        self.check(draw((1, 1)), {("drawn", ()): number(0, 1)})
        self.check(draw((0, 1), (1, 1), (0, 1)), {("drawn", ()): number(1, 3)})
        self.check(draw((0, 1)), {("drawn", ()): never(N1)})
        self.check(draw((0, 1), (0, 1), (0, 1)), {("drawn", ()): never(N3)})
        for program in (draw((1, 2)), draw((0, 1), (1, 2)), draw((1, 2), (1, 2)), draw((10 ** 79 - 1, 10 ** 79), (0, 1))):
            self.check(program, {})

    def test_passes_within(self):
        program = fun("x", N2, case(case(X, draw((1, 1), (0, 1)), ONE), take("y", X, name("y")), case(ZERO, X, COIN)))
        self.assertEqual([
            ("chosen", (3, 2, 1)), ("drawn", (3, 1, 2, 0)), ("inner", (3,)), ("taken", (3, 2, 0)),
        ], passes(program))

    def test_passes_for_which_no_expression_comes(self):
        # x stands so often that what comes would have more than 300 nodes.
        body = ONE
        for _ in range(24):
            body = case(X, X, body)
        for many in range(1, 8):
            handed = ZERO
            for _ in range(many):
                handed = case(COIN, ONE, handed)
            program = call(fun("x", N2, body), handed)
            found = all_passes(program)
            self.assertEqual([("hand", ())], list(found))
            fits = is_small(found[("hand", ())])
            self.assertEqual([("hand", ())] if fits else [], passes(program))
            if not fits:
                self.refused(BadPass, passed, program, "hand", ())
        # Or more than 50 levels: what is handed stands 26 levels deep.
        for levels in (24, 25, 26):
            handed = ZERO
            for _ in range(levels - 1):
                handed = case(COIN, ONE, handed)
            program = call(fun("x", N2, self.deep(26)), handed)
            made = all_passes(program)[("hand", ())]
            self.assertEqual(25 + levels, measured(made)[1])
            self.assertEqual([("hand", ())] if levels <= 25 else [], passes(program))

    def deep(self, levels):
        made = X
        for _ in range(levels - 1):
            made = case(COIN, ONE, made)
        return made

    def test_just_300_nodes(self):
        for uses, many, size in ((23, 11, 300), (20, 13, 301)):
            body = ONE
            for _ in range(uses):
                body = case(COIN, X, body)
            program = call(fun("x", N2, body), self.of_nodes(many))
            made = all_passes(program)[("hand", ())]
            self.assertEqual(size, measured(made)[0])
            fitting = [told for told in passes(program) if told[1] == ()]
            self.assertEqual([("hand", ())] if size == 300 else [], fitting)

    def test_programs_of_50_levels(self):
        program, expected = draw((1, 1)), number(0, 1)
        for _ in range(48):
            program, expected = case(draw(HALF), program), case(draw(HALF), expected)
        program, expected = fun("x", N2, program), fun("a", N2, expected)
        self.assertEqual(50, measured(program)[1])
        self.check(program, {("drawn", (3,) + (2, 0) * 48): expected})
        self.assertEqual(expected, last_form(program))

    def of_nodes(self, many):
        made = ZERO
        while measured(made)[0] < many:
            made = case(number(0, 1), made)
        return made

    def test_drawn_programs(self):
        source = random.Random(621)
        seen = {word: 0 for word in WORDS}
        for _ in range(250):
            kind = source.choice(KINDS)
            program = Maker(source, busy=True).make(kind, source.choice([2, 3, 4]))
            if not is_small(program):
                continue
            found = all_passes(program)
            fitting = sorted(told for told in found if is_small(found[told]))
            self.check_equal(fitting, passes(program))
            for word, path in fitting[:6]:
                made = passed(program, word, path)
                self.check_equal(plain_names(found[(word, path)]), made)
                self.assertEqual(kind, kind_of(made))
                self.assertEqual(made, source_of(compiled(made)))
                seen[word] += 1
        self.assertGreater(min(seen.values()), 3)

    def test_tables_stay(self):
        source = random.Random(622)
        told = 0
        for _ in range(120):
            program = Maker(source, busy=True).make(source.choice(KINDS), 3)
            for word, path in passes(program)[:4]:
                made = passed(program, word, path)
                try:
                    self.assertIs(True, alike(program, made))
                    told += 1
                except TooMany:
                    continue
        self.assertGreater(told, 200)

    def test_chances_by_manners_stay(self):
        source = random.Random(623)
        unlike = told = 0
        for _ in range(200):
            program = numbered(source, 4)
            if not is_small(program) or all_walks(program, 300) is None:
                continue
            for word, path in passes(program)[:5]:
                made = passed(program, word, path)
                named = source_of(compiled(program))
                of_number = word == "hand" and kind_of(part_at(named, path)[2], self.around(named, path))[0] == "num"
                for manner in ("name", "need", "value"):
                    same = run_by(program, manner) == run_by(made, manner)
                    if manner == "name" or not of_number:
                        self.assertTrue(same, (program, word, path, manner))
                        told += 1
                    else:
                        unlike += not same
        self.assertGreater(told, 300)
        self.assertGreater(unlike, 3)

    def around(self, program, path):
        return list(kinds_around(program, path).items())

    def test_refusals(self):
        right = {"program": EXAMPLE, "word": "hand", "path": ()}
        words = [value for value in STRANGE] + [word for word in WORDS if word != "hand"] + ["Hand", "call", ("hand",), b"hand"]
        for word in words:
            self.refused(BadPass, passed, EXAMPLE, word, ())
            self.refused(BadPass, passed, program=EXAMPLE, word=word, path=())
        paths = [value for value in STRANGE if not (isinstance(value, tuple) and value == ())] + [(1,), (2,), (0,), [1], "()"]
        self.check_refusals(passed, right, [("program", NO_PROGRAMS, BadProgram), ("path", paths, BadPass)])
        self.check_refusals(passes, {"program": EXAMPLE}, [("program", NO_PROGRAMS, BadProgram)])
        within = fun("x", N2, EXAMPLE)
        self.assertEqual([("hand", (3,))], passes(within))
        self.refused(BadPass, passed, within, "hand", ())
        choosing = case(COIN, case(ZERO, ZERO, ONE), case(ONE, ZERO, ONE))
        self.assertEqual([("chosen", (2, 0)), ("chosen", (2, 1))], passes(choosing))
        for path in ((2, True), (2, False), [2, 1], (2, 2), (2,)):
            self.refused(BadPass, passed, choosing, "chosen", path)


class LastForm(unittest.TestCase, Refusing):
    def check(self, program, expected):
        self.check_calls(last_form, {"program": program}, expected)
        self.check_calls(are_last, {"program": program, "value": expected}, True)

    def test_the_example(self):
        self.check(EXAMPLE, case(COIN, COIN, ONE))

    def test_by_hand(self):
        for program in (COIN, ONE, never(F), ASKS, number(0, 1)):
            self.check(program, program)
        # It has the names that source_of tells.
        self.check(fun("x", F, X), fun("a", F, A))
        self.check(draw((1, 1)), number(0, 1))
        self.check(draw((0, 1), (0, 1)), never(N2))
        self.check(case(draw((0, 1)), COIN), never(N2))
        self.check(case(draw((0, 1), (1, 2)), COIN, ONE), case(draw((0, 1), (1, 2)), COIN, ONE))
        self.check(take("x", COIN, X), case(COIN, ZERO, ONE))
        self.check(call(never(to(N2, F)), ZERO), never(F))
        self.check(call(fun("x", N2, ONE), never(N2)), ONE)

    def test_functions_of_any_order(self):
        self.check(fun("f", F, call(name("f"), call(fun("x", N2, X), COIN))), fun("a", F, call(A, COIN)))
        # Names that are handed too little, or nothing, stay so.
        two = to(N2, N2, N2)
        self.check(fun("f", two, fun("y", N2, call(call(fun("g", two, name("g")), name("f")), name("y")))), fun("a", two, fun("b", N2, call(A, B))))
        self.check(fun("f", F, case(COIN, name("f"), fun("x", N2, X))), fun("a", F, case(COIN, A, fun("b", N2, B))))
        self.check(fun("g", G, call(name("g"), call(fun("f", F, name("f")), fun("x", N2, X)))), fun("a", G, call(A, fun("b", N2, B))))
        asked = fun("g", to(F, F), call(call(name("g"), fun("x", N2, take("y", X, name("y")))), COIN))
        expected = fun("a", to(F, F), call(A, fun("b", N2, case(B, ZERO, ONE)), COIN))
        self.check(asked, expected)
        cases = fun("x", N2, call(case(X, fun("y", N2, name("y")), fun("y", N2, X)), COIN))
        self.check(cases, fun("a", N2, case(A, COIN, A)))

    def test_names_in_their_order(self):
        handed = fun("g", to(F, F, N2), call(name("g"), fun("x", N2, X), fun("y", N2, call(fun("z", F, call(name("z"), name("y"))), fun("u", N2, name("u"))))))
        self.check(handed, fun("a", to(F, F, N2), call(A, fun("b", N2, B), fun("c", N2, C))))

    def test_any_order_of_passes(self):
        source = random.Random(631)
        told = 0
        for _ in range(250):
            kind = source.choice(KINDS)
            program = Maker(source, busy=source.random() < 0.7).make(kind, source.choice([2, 3, 3]))
            try:
                expected = slow_last_form(program, source)
                self.check_equal(expected, slow_last_form(program, source))
            except TooLarge:
                continue
            if not is_small(expected):
                self.assertEqual(300, self.refused(TooMany, last_form, program).most)
                continue
            self.check_equal(expected, last_form(program))
            self.check_equal(expected, last_form(expected))
            self.assertEqual([], passes(expected))
            self.assertEqual(kind, kind_of(expected))
            told += 1
        self.assertGreater(told, 150)

    def test_what_stands_in_it(self):
        source = random.Random(632)
        for _ in range(200):
            kind = source.choice(KINDS)
            try:
                form = last_form(Maker(source, busy=True).make(kind, 4))
            except TooMany:
                continue
            for _, part in nodes(form):
                self.assertNotEqual("take", part[0])
                if part[0] == "case":
                    first = part[1]
                    while first[0] == "call":
                        first = first[1]
                    self.assertIn(first[0], ("name", "draw"))
            if all(part[0] == "num" for part in split(kind)[0]):
                self.assertNotIn("call", [part[0] for _, part in nodes(form)])
                self.assertEqual(folded(kind, table(form)), asked(form, "need"))
                self.assertEqual(spread(kind, table(form)), asked(form, "value"))

    def test_tables_stay(self):
        source = random.Random(633)
        told = 0
        for _ in range(150):
            program = Maker(source, busy=True).make(source.choice(KINDS), 3)
            try:
                self.assertIs(True, alike(program, last_form(program)))
                told += 1
            except TooMany:
                continue
        self.assertGreater(told, 120)
        for _, program, _ in DRAWN[:60]:
            try:
                form = last_form(program)
            except TooMany:
                continue
            self.assertEqual(table(program), table(form))

    def test_whatever_comes_between(self):
        # Passes in any order would make thousands of nodes; at the end there is one.
        program = call(composed(fun("x", N2, case(X, ONE, ZERO)), 12), ZERO)
        self.check(program, ZERO)
        large = ONE
        for _ in range(8):
            large = call(fun("x", N2, case(X, case(X, X, ZERO), case(X, ONE, X))), large)
        self.check(large, ONE)
        # What is handed and never used has no form that counts.
        self.check(call(fun("x", N2, ZERO), call(composed(fun("x", N2, case(X, COIN, COIN)), 30), COIN)), ZERO)

    def test_just_300_nodes(self):
        handed = case(draw(HALF), number(0, 1))
        found = {}
        for leaves in range(70, 100):
            for plain in range(3):
                body = self.spread([X] * leaves + [number(0, 1)] * plain)
                expected = put(body, "x", handed)
                found[measured(expected)[0]] = (call(fun("x", N1, body), handed), expected)
        for many in (299, 300):
            self.check(*found[many])
        for many in (301, 302):
            self.assertTrue(is_program(found[many][0]))
            self.assertEqual(300, self.refused(TooMany, last_form, found[many][0]).most)

    def spread(self, parts):
        """A tree of cases of draws, with six ways at most, in which all parts stand."""
        while len(parts) > 1:
            groups = [parts[at:at + 6] for at in range(0, len(parts), 6)]
            parts = [case(draw(*[(1, 6)] * len(group)), *group) for group in groups]
        return parts[0]

    def test_just_50_levels(self):
        for links in (47, 48):
            self.assertEqual(links + 2, measured(last_form(self.asking(links)))[1])
        for links in (49, 50):
            self.assertEqual(300, self.refused(TooMany, last_form, self.asking(links)).most)

    def asking(self, links):
        """A program whose last form is a fun, so many cases in a row, and a number."""
        program = number(0, 1)
        for _ in range(links // 7):
            program = call(fun("z", N1, self.asks(7)), program)
        for _ in range(links - links // 7 * 7):
            program = call(fun("z", N1, self.asks(1)), program)
        return fun("y", N1, program)

    def asks(self, many):
        body = name("z")
        for _ in range(many):
            body = case(name("y"), body)
        return body

    def nest(self, source, steps):
        """An expression of num 1 with z in many places, none of them the first one of a case."""
        def handing(part):
            return fun("u", N1, part)
        body = z = name("z")
        for _ in range(steps):
            body = source.choice([
                lambda part: case(draw(HALF), part), lambda part: case(draw((1, 2), (1, 3)), part, z),
                lambda part: case(draw((1, 2), (1, 3)), z, part), lambda part: call(name("f"), handing(part)),
                lambda part: case(call(name("f"), handing(part)), z), lambda part: case(call(name("f"), handing(z)), part),
                lambda part: call(name("g"), handing(part), handing(z)), lambda part: call(name("g"), handing(z), handing(part)),
                lambda part: case(call(name("g"), handing(z), handing(part)), part if steps < 6 else z),
            ])(body)
        return body

    def test_sizes_near_the_bounds(self):
        source = random.Random(634)
        inner = to(N1, N1)
        seen = {}
        for _ in range(2500):
            body = self.nest(source, source.randrange(4, 30))
            handed = number(0, 1)
            for _ in range(source.randrange(1, 30)):
                handed = case(draw(HALF), handed)
            around = lambda part: fun("f", to(inner, N1), fun("g", to(inner, inner, N1), part))
            program = around(call(fun("z", N1, body), handed))
            expected = plain_names(around(put(body, "z", handed)))
            many, levels = measured(expected)
            if not is_small(program) or not (295 < many < 306 or 48 <= levels <= 53):
                continue
            if many <= 300 and levels <= 50:
                self.check_equal(expected, last_form(program))
            else:
                self.assertEqual(300, self.refused(TooMany, last_form, program).most)
            for key in (("nodes", many) if levels <= 50 else None, ("levels", levels) if many <= 300 else None):
                seen[key] = seen.get(key, 0) + 1
        for key in (("nodes", 299), ("nodes", 300), ("nodes", 301), ("nodes", 302), ("levels", 50), ("levels", 51)):
            self.assertGreater(seen.get(key, 0), 0, key)

    def test_far_too_large(self):
        many = call(composed(fun("x", N2, case(COIN, X, X)), 40), COIN)
        self.assertEqual(300, self.refused(TooMany, last_form, many).most)
        self.assertEqual(300, self.refused(TooMany, are_last, many, COIN).most)
        deep = fun("x", N2, call(composed(fun("y", N2, case(X, name("y"), ONE)), 40), COIN))
        self.assertTrue(is_program(deep))
        self.assertEqual(42, measured(last_form(deep))[1])

    def test_alike_parts_of_it(self):
        self.assertEqual([((1,), (2, 0))], alike_parts(last_form(EXAMPLE)))

    def test_refusals(self):
        self.check_refusals(last_form, {"program": EXAMPLE}, [("program", NO_PROGRAMS, BadProgram)])
        self.check_refusals(are_last, {"program": EXAMPLE, "value": COIN}, [("program", NO_PROGRAMS, BadProgram)])


class AreLast(unittest.TestCase, Refusing):
    def test_any_value(self):
        for value in STRANGE + NO_PROGRAMS + [COIN, EXAMPLE, list(case(COIN, COIN, ONE)), ("case", COIN, [COIN, ONE])]:
            self.assertIs(False, are_last(EXAMPLE, value))
        self.assertIs(True, are_last(EXAMPLE, case(COIN, COIN, ONE)))
        self.assertIs(True, are_last(program=EXAMPLE, value=case(COIN, COIN, ONE)))
        self.assertIs(False, are_last(ONE, ("number", True, 2)))
        self.assertIs(True, are_last(ONE, ("number", 1, 2)))
        self.assertIs(False, are_last(draw((1, 1)), ("number", False, 1)))
        self.assertIs(False, are_last(draw(HALF), ("draw", ((True, 2),))))
        # Other names are not those that source_of tells.
        self.assertIs(False, are_last(fun("x", N2, X), fun("x", N2, X)))
        self.assertIs(True, are_last(fun("x", N2, X), fun("a", N2, A)))


if __name__ == "__main__":
    unittest.main()
