"""talks.py: points 33, 34 and 35."""

import random
import unittest

from chancepoints.alike import alike
from chancepoints.errors import BadKind, BadProgram, BadTalk, TooMany
from chancepoints.meaning import table
from chancepoints.talks import is_talk, program_of, talk_of, told_by
from chancepoints.terms import is_program, kind_of
from tests.helping import Refusing, STRANGE, nested
from tests.oracle import (
    COIN, HALF, KINDS, Maker, call, case, draw, fun, name, never, num, number, table_size, take, to,
)
from tests.oracle import measured as nodes_and_levels
from tests.shapes import X
from tests.talking import (
    ANSWER0, ANSWER1, NONE, TalkMaker, Talker, TooLarge, ask, drawing, letters, measured, program_by_words, told_table,
)
from tests.test_kinds import WRONG as KINDS_WRONG
from tests.test_manners import NO_PROGRAMS, TWICE
from tests.test_meaning import OVER

N1, N2, N3, N6 = num(1), num(2), num(3), num(6)
F = to(N2, N2)
G = to(F, N2)
H = to(G, N2)
HIGH = [N2, F, G, H, to(N3, N2), to(F, F, N2), to(F, N2, N3), to(to(N2, N2, N2), N2), to(G, F, N2), to(H, N2)]
TWICE_TALK = ask(0, ask(0, ANSWER0, ANSWER1), ANSWER1)


def ladder(many, end=ANSWER0):
    """A talk with so many parts in a row."""
    for _ in range(many - 1):
        end = drawing((HALF, end))
    return end


def bush(many):
    """A talk of a number with so many parts, few of them in a row."""
    if many <= 7:
        rows = many - 1
        return drawing(*[((1, 6), ANSWER0)] * rows) if rows else ANSWER0
    rows = []
    left = many - 1
    while left > 0:
        part = min(left, max(1, (many - 1 + 5) // 6))
        rows.append(((1, 6), bush(part)))
        left -= part
    return drawing(*rows)


ROW_OF_SIXTHS = [((1, 6), ANSWER0)] * 6

RIGHT = [
    (N1, ANSWER0), (N6, ("answer", 5)), (N2, NONE), (F, NONE), (F, ANSWER1),
    (N2, drawing(((1, 1), ANSWER0))), (N2, drawing((HALF, ANSWER0), (HALF, ANSWER1))), (N2, drawing(((1, 3), NONE))),
    (N2, drawing(*ROW_OF_SIXTHS)), (N2, drawing(((10 ** 79 - 1, 10 ** 79), ANSWER0))),
    (F, ask(0, ANSWER0, ANSWER1)), (F, TWICE_TALK), (to(N3, N2), ask(0, NONE, NONE, NONE)), (to(N1, N2), ask(0, ANSWER1)),
    (to(N2, N3, N2), ask(1, ANSWER0, ask(0, NONE, ANSWER1), NONE)),
    (G, ask(0, ANSWER0, ANSWER1, handed=[ANSWER1])), (G, ask(0, ANSWER0, NONE, handed=[drawing((HALF, NONE))])),
    # What is handed may ask what is around it.
    (G, ask(0, ANSWER0, ANSWER1, handed=[ask(0, ANSWER0, ANSWER1, handed=[NONE])])),
    (H, ask(0, ANSWER0, ANSWER1, handed=[ask(1, ANSWER0, ask(0, NONE, NONE, handed=[ask(2, ANSWER0, NONE)]))])),
    (to(to(N2, N3, N2), N2), ask(0, ANSWER0, ANSWER1, handed=[ANSWER1, ("answer", 2)])),
    (N2, bush(4000)), (N2, bush(3999)), (N2, ladder(100)), (N2, ladder(99)),
]

WRONG = [
    (N2, ("answer", 2)), (N2, ("answer", -1)), (N2, ("answer", True)), (N2, ("answer", None)), (N2, ("answer",)),
    (N2, ("answer", 0, 0)), (N2, ["answer", 0]), (N2, ("none", 0)), (N2, "none"), (N2, ["none"]), (N2, ("never",)),
    (N1, ANSWER1), (F, ("answer", 2)), (N2, ask(0, ANSWER0, ANSWER1)), (F, ask(1, ANSWER0, ANSWER1)),
    (F, ask(-1, ANSWER0, ANSWER1)), (F, ask(True, ANSWER0, ANSWER1)), (to(N2, F), ask(True, ANSWER0, ANSWER1)),
    (F, ask(False, ANSWER0, ANSWER1)), (F, ask(None, ANSWER0, ANSWER1)), (F, ask("0", ANSWER0, ANSWER1)),
    (F, ask(0, ANSWER0)), (F, ask(0, ANSWER0, ANSWER1, NONE)), (to(N3, N2), ask(0, ANSWER0, ANSWER1)),
    (F, ask(0, ANSWER0, ("answer", 2))), (F, ask(0, ANSWER0, None)), (F, ask(0, ask(0, ANSWER0, ()), NONE)),
    (F, ask(0, ANSWER0, ANSWER1, handed=[ANSWER0])), (G, ask(0, ANSWER0, ANSWER1)),
    (G, ask(0, ANSWER0, ANSWER1, handed=[ANSWER0, ANSWER0])), (G, ask(0, ANSWER0, ANSWER1, handed=[("answer", 2)])),
    # What is handed to a thing of this kind has no things of its own, so thing 1 is none.
    (G, ask(0, ANSWER0, ANSWER1, handed=[ask(1, ANSWER0, ANSWER1)])),
    (G, ("ask", 0, [ANSWER0], (ANSWER0, ANSWER1))), (G, ("ask", 0, (ANSWER0,), [ANSWER0, ANSWER1])),
    (F, ("ask", 0, None, (ANSWER0, ANSWER1))), (F, ("ask", 0, (), ANSWER0)), (F, ("ask", 0, ())), (F, ["ask", 0, (), (NONE, NONE)]),
    (F, ("ask", 0, (), (NONE, NONE), ())),
    # The own thing of what is handed is none of the rows' things.
    (H, ask(0, ask(1, ANSWER0, ANSWER1), ANSWER1, handed=[ANSWER0])),
    (H, ask(0, ANSWER0, ANSWER1, handed=[ask(1, ANSWER0, ANSWER1, handed=[NONE])])),
    (H, ask(0, ANSWER0, ANSWER1, handed=[ask(2, ANSWER0, ANSWER1)])),
    (N2, drawing()), (N2, drawing(*[((1, 7), ANSWER0)] * 7)), (N2, ("draw", [(HALF, NONE)])), (N2, ("draw", ([HALF, NONE],))),
    (N2, ("draw", (HALF, NONE))), (N2, ("draw", ((HALF,),))), (N2, ("draw", ((HALF, NONE, NONE),))), (N2, ("draw",)),
    (N2, ("draw", ((HALF, NONE),), ())), (N2, ("draw", None)), (N2, ["draw", ((HALF, NONE),)]),
    (N2, drawing(((0, 1), NONE))), (N2, drawing((HALF, NONE), ((0, 1), NONE))), (N2, drawing(((-1, 2), NONE))),
    (N2, drawing((HALF, NONE), ((2, 3), NONE))), (N2, drawing(((2, 1), NONE))), (N2, drawing(((2, 4), NONE))),
    (N2, drawing(([1, 2], NONE))), (N2, drawing(((True, 1), NONE))), (N2, drawing((1, NONE))), (N2, drawing((None, NONE))),
    (N2, drawing((HALF, None))), (N2, drawing((HALF, drawing((HALF, ("answer", 2)))))), (N2, drawing((HALF, ["none"]))),
    (N2, bush(4001)), (N2, ladder(101)), (N2, ladder(101, NONE)), (G, ask(0, NONE, NONE, handed=[ladder(100)])),
    (N2, nested(lambda part: drawing((HALF, part), (HALF, part)), ANSWER0, 90)),
]


class IsTalk(unittest.TestCase, Refusing):
    def test_right(self):
        for kind, talk in RIGHT:
            self.check_calls(is_talk, {"kind": kind, "value": talk}, True)
        self.assertEqual((4000, 100), (measured(bush(4000))[0], measured(ladder(100))[1]))
        self.assertTrue(is_talk(G, ask(0, NONE, NONE, handed=[ladder(99)])))

    def test_wrong(self):
        for kind, talk in WRONG:
            self.check_calls(is_talk, {"kind": kind, "value": talk}, False)
        for value in STRANGE:
            for kind in (N1, F, H):
                self.assertIs(False, is_talk(kind, value))

    def test_wrong_within_right(self):
        for kind, talk in WRONG:
            for put in (lambda part: drawing((HALF, NONE), (HALF, part)), lambda part: drawing((HALF, drawing((HALF, part))))):
                self.assertIs(False, is_talk(kind, put(talk)))
            # Behind one thing more that is around, what asks may be right.
            if kind in (N1, N2) and talk != ask(0, ANSWER0, ANSWER1):
                self.assertIs(False, is_talk(to(to(kind, N2), N2), ask(0, NONE, NONE, handed=[talk])))

    def test_random_talks(self):
        source = random.Random(331)
        for _ in range(300):
            kind, other = source.choice(HIGH), source.choice(HIGH)
            talk = TalkMaker(source).talk(kind, 5)
            self.assertIs(True, is_talk(kind, talk))
            if not is_talk(other, talk):
                self.refused(BadTalk, told_by, other, talk)

    def test_refusals(self):
        self.check_refusals(is_talk, {"kind": N2, "value": NONE}, [("kind", KINDS_WRONG, BadKind)])


class TalkOf(unittest.TestCase, Refusing):
    def check(self, program, expected):
        self.check_calls(talk_of, {"program": program}, expected)

    def test_the_example(self):
        self.check(TWICE, TWICE_TALK)

    def test_numbers(self):
        self.check(number(1, 2), ANSWER1)
        self.check(never(N2), NONE)
        self.check(never(H), NONE)
        self.check(COIN, drawing((HALF, ANSWER0), (HALF, ANSWER1)))
        self.check(draw((0, 1), (1, 3)), drawing(((1, 3), ANSWER1)))
        self.check(draw((1, 1)), drawing(((1, 1), ANSWER0)))
        self.check(draw((0, 1), (0, 1)), NONE)
        self.check(case(draw((0, 1)), number(1, 2)), NONE)
        self.check(take("x", COIN, case(X, X, never(N2))), drawing((HALF, ANSWER0), (HALF, NONE)))

    def test_own_things_and_things_around(self):
        own = fun("f", F, fun("x", N2, call(name("f"), X)))
        self.check(own, ask(0, ANSWER0, ANSWER1, handed=[ask(1, ANSWER0, ANSWER1)]))
        # A thing that is handed on waits as it is.
        self.check(fun("f", F, name("f")), ask(0, ANSWER0, ANSWER1, handed=[ask(1, ANSWER0, ANSWER1)]))
        inner = fun("g", G, call(name("g"), fun("x", N2, case(X, X, call(name("g"), name("h"))))))
        whole = fun("h", F, call(fun("g", G, call(inner, name("g"))), fun("f", F, call(name("f"), number(1, 2)))))
        self.assertEqual(table(whole), told_by(G, talk_of(whole)))
        first = fun("g", G, call(name("g"), fun("x", N2, case(X, X, call(name("g"), fun("y", N2, X))))))
        again = ask(0, ANSWER0, ANSWER1, handed=[ask(1, ANSWER0, ANSWER1)])
        self.check(first, ask(0, ANSWER0, ANSWER1, handed=[ask(1, ask(1, ANSWER0, ANSWER1), again)]))

    def test_takes_and_cases_that_wait(self):
        program = fun("x", N2, take("y", case(X, number(1, 2), COIN), case(X, name("y"), name("y"))))
        last = [ask(0, ANSWER0, ANSWER0), ask(0, ANSWER1, ANSWER1)]
        self.check(program, ask(0, last[1], drawing((HALF, last[0]), (HALF, last[1]))))

    def test_by_words(self):
        source = random.Random(341)
        large = 0
        for _ in range(500):
            kind = source.choice(HIGH + KINDS)
            program = Maker(source, busy=source.random() < 0.4).make(kind, source.choice([2, 3, 4]))
            try:
                expected = Talker().talk_of(program, kind)
            except TooLarge:
                expected = None
            if expected is None or measured(expected)[1] > 100:
                self.assertEqual(4000, self.refused(TooMany, talk_of, program).most)
                large += 1
                continue
            self.check_equal(expected, talk_of(program))
            self.assertIs(True, is_talk(kind, expected))
        self.assertLess(large, 100)

    def test_just_4000_parts(self):
        # Of bushes of draws: 6 * 666 + 4 is 4000.
        def bushes(many):
            return self.expression(bush(many))
        self.assertEqual(bush(4000), Talker().talk_of(self.squeezed(4000), N1))
        self.assertEqual(bush(4000), talk_of(self.squeezed(4000)))
        self.assertEqual(4000, self.refused(TooMany, talk_of, self.squeezed(4001)).most)
        self.assertEqual(bush(40), talk_of(bushes(40)))

    def expression(self, talk):
        if talk[0] == "answer":
            return number(0, 1)
        return case(draw(*[part for part, _ in talk[1]]), *[self.expression(part) for _, part in talk[1]])

    def squeezed(self, many):
        """A program of at most 300 nodes whose talk is bush(many): like parts are handed once."""
        bound = {}

        def made(talk):
            key = repr(talk)
            if talk[0] == "answer":
                return number(0, 1)
            if key not in bound:
                body = case(draw(*[part for part, _ in talk[1]]), *[made(part) for _, part in talk[1]])
                bound[key] = (letters(len(bound)), body)
            return name(bound[key][0])
        whole = made(bush(many))
        # What was bound last may use all that was bound before.
        for x, body in reversed(list(bound.values())):
            whole = call(fun(x, N1, whole), body)
        self.assertTrue(is_program(whole))
        return whole

    def test_just_100_parts_in_a_row(self):
        for last in (23, 24, 25):
            # Each use of z asks x once; the answer is a part, too.
            body = number(0, 1)
            for part in (25, 25, 25, last):
                inner = name("z")
                for _ in range(part - 1):
                    inner = case(name("z"), inner)
                body = case(call(fun("z", N1, inner), X), body)
            program = fun("x", N1, body)
            if last < 25:
                self.assertEqual(76 + last, measured(talk_of(program))[1])
            else:
                self.assertEqual(4000, self.refused(TooMany, talk_of, program).most)

    def test_rows_through_draws_and_what_is_handed(self):
        def composed(step, many, last):
            # So many times 10 steps, and a few more.
            ten = name("z")
            for _ in range(10):
                ten = step(ten)
            made = number(0, 1)
            for _ in range(many):
                made = call(name("g"), made)
            made = call(fun("g", to(N1, N1), made), fun("z", N1, ten))
            for _ in range(last):
                made = step(made)
            return made
        drawing_once = lambda part: case(draw(HALF), part)
        asking_once = lambda part: call(name("f"), fun("u", N1, part))
        high = to(to(N1, N1), N1)
        for last, fits in ((9, True), (10, False)):
            programs = [(composed(drawing_once, 9, last), ladder(91 + last))]
            programs.append((fun("f", high, composed(asking_once, 9, last)), None))
            for program, expected in programs:
                if not fits:
                    self.assertEqual(4000, self.refused(TooMany, talk_of, program).most)
                    continue
                talk = talk_of(program)
                self.assertEqual(100, measured(talk)[1])
                self.check_equal(Talker().talk_of(program, kind_of(program)), talk)
                self.assertIn(expected, (None, talk))

    def test_refusals(self):
        self.check_refusals(talk_of, {"program": TWICE}, [("program", NO_PROGRAMS, BadProgram)])


class ToldBy(unittest.TestCase, Refusing):
    def test_the_example(self):
        self.check_calls(told_by, {"kind": F, "talk": TWICE_TALK}, table(TWICE))

    def test_tables_of_drawn_programs(self):
        source = random.Random(342)
        told = 0
        for _ in range(400):
            kind = source.choice(HIGH + KINDS)
            program = Maker(source, busy=source.random() < 0.4).make(kind, source.choice([2, 3]))
            try:
                talk, expected = talk_of(program), table(program)
            except TooMany:
                continue
            self.check_equal(expected, told_by(kind, talk))
            told += 1
        self.assertGreater(told, 330)

    def test_random_talks(self):
        source = random.Random(343)
        for _ in range(200):
            kind = source.choice(HIGH)
            talk = TalkMaker(source).talk(kind, 5)
            expected = told_table(talk, kind)
            if table_size(expected) > 4000:
                self.assertEqual(4000, self.refused(TooMany, told_by, kind, talk).most)
            else:
                self.check_equal(expected, told_by(kind, talk))

    def test_order_has_no_bearing(self):
        two = to(N2, N2, N2)
        one = ask(0, ask(1, ANSWER0, ANSWER1), ask(1, ANSWER1, NONE))
        other = ask(1, ask(0, ANSWER0, ANSWER1), ask(0, ANSWER1, NONE))
        self.assertEqual(told_by(two, one), told_by(two, other))

    def test_just_4000(self):
        def stairs(many):
            talk = ANSWER0
            for _ in range(many):
                talk = ask(0, talk, ANSWER1)
            return talk

        def ones(many):
            talk = ANSWER0
            for _ in range(many):
                talk = ask(0, NONE, talk)
            return talk
        # So many stairs have a point of 86 calls in row 0, and one of each of 1 to 86 calls in row 1.
        for many, told in ((84, 3999), (85, 4000), (86, 4001)):
            talk = drawing((HALF, stairs(86)), ((1, 4), ones(many)))
            expected = told_table(talk, F)
            self.assertEqual(told, table_size(expected))
            if told <= 4000:
                self.check_equal(expected, told_by(F, talk))
            else:
                self.assertEqual(4000, self.refused(TooMany, told_by, F, talk).most)
        self.assertEqual(4000, self.refused(TooMany, told_by, F, stairs(99)).most)

    def test_ways_that_never_end(self):
        self.assertEqual(((), ()), told_by(F, ask(0, NONE, NONE)))
        self.assertEqual(((), ()), told_by(F, NONE))

    def test_refusals(self):
        right = {"kind": F, "talk": TWICE_TALK}
        wrong = [talk for kind, talk in WRONG if kind == F] + STRANGE + [("answer", 2), bush(4001), ladder(101)]
        for function in (told_by, program_of):
            self.check_refusals(function, right, [("kind", KINDS_WRONG, BadKind), ("talk", wrong, BadTalk)])
            for kind, talk in WRONG:
                self.refused(BadTalk, function, kind, talk)


class ProgramOf(unittest.TestCase, Refusing):
    def check(self, kind, talk, expected):
        self.check_calls(program_of, {"kind": kind, "talk": talk}, expected)

    def test_by_hand(self):
        a, b = name("a"), name("b")
        self.check(F, TWICE_TALK, fun("a", N2, case(a, case(a, number(0, 2), number(1, 2)), number(1, 2))))
        self.check(N2, drawing(((1, 3), ANSWER1), ((1, 3), NONE)), case(draw((1, 3), (1, 3)), number(1, 2), never(N2)))
        self.check(H, NONE, fun("a", G, never(N2)))
        within = ask(1, ANSWER0, ask(0, NONE, NONE, handed=[ANSWER1]))
        again = case(call(a, fun("c", N2, number(1, 2))), never(N2), never(N2))
        asked = call(a, fun("b", N2, case(b, number(0, 2), again)))
        self.check(H, ask(0, ANSWER0, ANSWER1, handed=[within]), fun("a", G, case(asked, number(0, 2), number(1, 2))))

    def test_there_and_back(self):
        source = random.Random(351)
        told = 0
        for _ in range(400):
            kind = source.choice(HIGH)
            talk = TalkMaker(source).talk(kind, source.choice([2, 3, 4, 5]))
            expected = program_by_words(talk, kind)
            many, levels = nodes_and_levels(expected)
            if many > 300 or levels > 50:
                self.assertEqual(300 if many > 300 else 50, self.refused(TooMany, program_of, kind, talk).most)
                continue
            self.check_equal(expected, program_of(kind, talk))
            self.check_equal(talk, talk_of(expected))
            self.assertEqual(kind, kind_of(expected))
            told += 1
        self.assertGreater(told, 250)

    def test_programs_and_back(self):
        source = random.Random(352)
        told = 0
        for _ in range(300):
            kind = source.choice(HIGH + KINDS)
            program = Maker(source).make(kind, 3)
            try:
                made = program_of(kind, talk_of(program))
                self.assertIs(True, alike(made, program))
                told += 1
            except TooMany:
                continue
        self.assertGreater(told, 200)

    def test_names_beyond_z(self):
        # Each level of what is handed has 9 things more.
        wide = to(to(*[N1] * 9, N1), N1)
        talk = ask(0, ANSWER0, handed=[ask(0, ANSWER0, handed=[ask(0, ANSWER0, handed=[ANSWER0] * 9)] + [ANSWER0] * 8)] + [ANSWER0] * 8)
        # The arguments are of num 1: so they are told by talks without own things.
        self.assertIs(True, is_talk(wide, talk))
        self.check_equal(program_by_words(talk, wide), program_of(wide, talk))
        higher = to(to(to(*[N1] * 9, N1), N1), N1)
        talk = ANSWER0
        for at in range(3, -1, -1):
            talk = ask(0, ANSWER0, handed=[ask(9 * at + 9, talk)]) if at else ask(0, ANSWER0, handed=[ask(9, talk)])
        self.assertIs(True, is_talk(higher, talk))
        made = program_of(higher, talk)
        self.check_equal(program_by_words(talk, higher), made)
        self.assertIn("'aa'", repr(made))
        self.assertIn("'ak'", repr(made))
        self.assertNotIn("'al'", repr(made))
        self.assertEqual(talk, talk_of(made))

    def test_things_for_all_of_which_no_expression_has_nodes(self):
        # Nine things more are around at each level; from 78 levels on more than the 702 names of one or two letters.
        kind = to(to(to(*[N1] * 9, N1), N1), N1)
        for levels in (0, 1, 3, 4, 5, 28, 29, 60, 77, 78, 79, 90, 98):
            for end in (ANSWER0, NONE, ask(9 * levels, ANSWER0, handed=[NONE] if levels == 0 else [])):
                talk = end
                for _ in range(levels):
                    talk = ask(0, ANSWER0, handed=[talk])
                self.assertIs(True, is_talk(kind, talk))
                made = program_by_words(talk, kind)
                many, row = nodes_and_levels(made)
                if many <= 300 and row <= 50:
                    self.check(kind, talk, made)
                else:
                    self.assertEqual(300 if many > 300 else 50, self.refused(TooMany, program_of, kind, talk).most)
        self.assertEqual((98 * 13 + 4, 98 * 11 + 3), nodes_and_levels(made))

    def test_just_300_nodes(self):
        # A draw of r answers is a case, a draw and r numbers.
        def of(many):
            for first in range(1, 7):
                for second in range(0, 60):
                    parts = [drawing(*[((1, 6), ANSWER0)] * 6)] * second
                    made = self.spread(first, parts)
                    if made is not None and nodes_and_levels(program_by_words(made, N1))[0] == many:
                        return made
            return None
        for many in (299, 300):
            talk = of(many)
            self.assertEqual(many, nodes_and_levels(program_of(N1, talk))[0])
        for many in (301, 302):
            self.assertEqual(300, self.refused(TooMany, program_of, N1, of(many)).most)

    def spread(self, first, parts):
        """A draw of few rows at each level, in which all parts stand."""
        if not parts:
            return drawing(*[((1, 6), ANSWER0)] * first)
        made = list(parts) + [drawing(*[((1, 6), ANSWER0)] * first)]
        while len(made) > 1:
            made = [drawing(*[((1, 6), part) for part in made[at:at + 6]]) for at in range(0, len(made), 6)]
        return made[0]

    def test_just_50_levels(self):
        # Each draw of a ladder is a case, whose parts are one level deeper.
        self.assertEqual(50, nodes_and_levels(program_of(N1, ladder(50)))[1])
        self.assertEqual(50, self.refused(TooMany, program_of, N1, ladder(51)).most)
        self.assertEqual(50, self.refused(TooMany, program_of, N1, ladder(100)).most)
        # More than 300 nodes are told first.
        end = drawing(*[((1, 6), drawing(*[((1, 6), drawing(*ROW_OF_SIXTHS))] * 6))] * 6)
        self.assertEqual(300, self.refused(TooMany, program_of, N1, ladder(90, end)).most)
        self.assertEqual(300, self.refused(TooMany, program_of, N1, bush(4000)).most)
        # Own things are levels, too.
        wide = to(*[N1] * 11, N1)
        self.assertEqual(50, nodes_and_levels(program_of(wide, ladder(39)))[1])
        self.assertEqual(50, self.refused(TooMany, program_of, wide, ladder(40)).most)

    def test_deep_and_wide_at_once(self):
        # A talk of 100 parts in a row, each of which hands ten things, has thousands of levels.
        wide = to(to(*[N1] * 10, N1), N1)
        talk = ANSWER0
        for _ in range(99):
            talk = ask(0, ANSWER0, handed=[talk] + [ANSWER0] * 9)
        self.assertIs(True, is_talk(wide, talk))
        self.assertEqual(300, self.refused(TooMany, program_of, wide, talk).most)

    def test_large_tables(self):
        self.assertEqual(4000, self.refused(TooMany, talk_of, OVER).most)


if __name__ == "__main__":
    unittest.main()
