"""meeting.py: point 36."""

import random
import unittest
from fractions import Fraction

from chancepoints.errors import BadKind, BadTalk, BadTalks, TooMany
from chancepoints.meeting import asks, met
from chancepoints.runs import how_often, run
from chancepoints.talks import talk_of
from tests.helping import Refusing, STRANGE, strange_but
from tests.oracle import COIN, HALF, Maker, call, chances_of, frac, fun, is_small, name, num, number, split, to, weight
from tests.talking import ANSWER0, ANSWER1, NONE, TalkMaker, TooLarge, ask, drawing, meetings
from tests.test_kinds import WRONG as KINDS_WRONG
from tests.test_manners import EXAMPLE
from tests.test_talks import TWICE_TALK, bush, ladder
from tests.walks import all_walks

N1, N2, N3 = num(1), num(2), num(3)
F = to(N2, N2)
G = to(F, N2)
H = to(G, N2)
KINDS = [
    N2, N3, F, to(N2, N3), to(N2, N2, N2), to(N1, N3, N2), G, to(F, F, N2), to(F, N2, N3), to(to(N2, N2, N2), N2),
    H, to(H, N2), to(G, F, N2),
]
COINS = drawing((HALF, ANSWER0), ((1, 4), ANSWER1))


def summed_meetings(talk, things, k):
    """What asks has to tell, of all that may happen, one by one."""
    sums = {}
    for answer, counts, chance in meetings(talk, things):
        key = (k if answer is None else answer, counts)
        sums[key] = sums.get(key, 0) + chance
    return [(None if key[0] == k else key[0], key[1], weight(sums[key])) for key in sorted(sums)]


def chances(rows, k):
    found = [Fraction(0)] * k
    for answer, _, part in rows:
        if answer is not None:
            found[answer] += frac(part)
    return tuple(weight(part) for part in found)


class Meeting(unittest.TestCase, Refusing):
    def check(self, kind, talk, talks, expected):
        right = {"kind": kind, "talk": talk, "talks": talks}
        self.check_calls(asks, right, expected)
        self.check_calls(asks, {**right, "talks": tuple(talks)}, expected)
        self.check_calls(met, right, chances(expected, split(kind)[1]))

    def test_the_example(self):
        self.check(F, TWICE_TALK, [COINS], [
            (0, (2,), (1, 4)), (1, (1,), (1, 4)), (1, (2,), (1, 8)), (None, (1,), (1, 4)), (None, (2,), (1, 8)),
        ])

    def test_of_numbers(self):
        self.check(N2, ANSWER1, [], [(1, (), (1, 1))])
        self.check(N2, NONE, [], [(None, (), (1, 1))])
        self.check(N3, drawing((HALF, ("answer", 2)), ((1, 4), ANSWER0)), [], [(0, (), (1, 4)), (2, (), HALF), (None, (), (1, 4))])
        self.check(N2, drawing((HALF, ANSWER0), (HALF, ANSWER0)), [], [(0, (), (1, 1))])

    def test_things_that_do_not_answer(self):
        self.check(F, ask(0, ANSWER0, ANSWER1), [NONE], [(None, (1,), (1, 1))])
        self.check(F, ANSWER0, [NONE], [(0, (0,), (1, 1))])
        self.check(F, drawing((HALF, ask(0, ANSWER0, ANSWER1))), [ANSWER1], [(1, (1,), HALF), (None, (0,), HALF)])

    def test_counts_of_each_own_thing(self):
        kind = to(N2, N2, N2)
        talk = ask(1, ask(0, ANSWER0, NONE), ask(1, ANSWER0, ANSWER1))
        self.check(kind, talk, [ANSWER0, COINS], [
            (0, (0, 2), (1, 8)), (0, (1, 1), HALF), (1, (0, 2), (1, 16)), (None, (0, 1), (1, 4)), (None, (0, 2), (1, 16)),
        ])
        # Two equal talks are two things.
        self.check(kind, talk, [ANSWER0, ANSWER0], [(0, (1, 1), (1, 1))])

    def test_asked_from_within_what_is_handed_on(self):
        # f asks what it is handed twice, and that asks x.
        kind = to(F, N2, N2)
        talk = ask(0, ANSWER0, ANSWER1, handed=[ask(1, ANSWER0, ANSWER1)])
        twice = ask(0, ask(0, ANSWER0, ANSWER1), ANSWER1)
        self.check(kind, talk, [twice, ANSWER0], [(0, (1, 2), (1, 1))])
        self.check(kind, talk, [twice, ANSWER1], [(1, (1, 1), (1, 1))])
        self.check(kind, talk, [twice, NONE], [(None, (1, 1), (1, 1))])
        # What is handed to f asks f again, handing it a number.
        kind = G
        talk = ask(0, ANSWER0, ANSWER1, handed=[ask(0, ANSWER0, ANSWER1, handed=[ANSWER0])])
        self.check(kind, talk, [twice], [(0, (3,), (1, 1))])

    def test_begun_anew_at_each_ask(self):
        self.check(F, TWICE_TALK, [drawing((HALF, ANSWER0), (HALF, ANSWER1))], [(0, (2,), (1, 4)), (1, (1,), HALF), (1, (2,), (1, 4))])

    def test_random_talks(self):
        source = random.Random(361)
        seen = 0
        for _ in range(400):
            kind = source.choice(KINDS)
            maker = TalkMaker(source)
            talk = maker.talk(kind, 4)
            talks = [maker.talk(part, 3) for part in split(kind)[0]]
            try:
                expected = summed_meetings(talk, talks, split(kind)[1])
            except TooLarge:
                continue
            found = asks(kind, talk, talks)
            self.check_equal(expected, found)
            self.check_equal(chances(expected, split(kind)[1]), met(kind, talk, talks))
            self.assertEqual(Fraction(1), sum(frac(row[2]) for row in found))
            seen += max([sum(row[1]) for row in found]) > 2
        self.assertGreater(seen, 60)

    def test_talks_of_programs(self):
        source = random.Random(362)
        told = 0
        for _ in range(400):
            kind = source.choice(KINDS)
            maker = Maker(source)
            program = maker.make(kind, 3)
            things = [maker.make(part, 2) for part in split(kind)[0]]
            whole = call(program, *things)
            if not is_small(whole) or all_walks(whole, 400) is None:
                continue
            try:
                talk, talks = talk_of(program), [talk_of(part) for part in things]
            except TooMany:
                continue
            k = split(kind)[1]
            self.check_equal(run(whole), met(kind, talk, talks))
            self.check_equal(chances_of(whole, k), met(kind, talk, talks))
            told += 1
        self.assertGreater(told, 300)

    def test_how_often_of_what_is_handed(self):
        self.check_equal([(a, counts[0], part) for a, counts, part in asks(F, TWICE_TALK, [COINS])], how_often(EXAMPLE, (2,)))

    def test_many_asks(self):
        # So many ways that they cannot be gone through one by one.
        def chain(many):
            talk = ANSWER0
            for _ in range(many):
                talk = ask(0, talk, talk) if many < 5 else ask(0, talk, ANSWER1)
            return talk
        coin = drawing((HALF, ANSWER0), (HALF, ANSWER1))
        self.assertEqual(((1, 2 ** 99), (2 ** 99 - 1, 2 ** 99)), met(F, chain(99), [coin]))
        power = fun("f", F, fun("x", N2, call(name("f"), call(name("f"), call(name("f"), name("x"))))))
        flip = fun("y", N2, COIN)
        many = talk_of(call(fun("g", to(F, F), fun("f", F, call(name("g"), call(name("g"), call(name("g"), name("f")))))), power))
        kind = to(F, N2, N2)
        found = met(kind, many, [talk_of(flip), ANSWER0])
        self.assertEqual((HALF, HALF), found)
        swap = talk_of(fun("y", N2, ("case", name("y"), (number(1, 2), number(0, 2)))))
        self.assertEqual([(1, (27, 1), (1, 1))], asks(kind, many, [swap, ANSWER0]))

    def test_deep_talks(self):
        high = to(to(N1, N1), N1)
        talk = ANSWER0
        for _ in range(99):
            talk = ask(0, ANSWER0, handed=[talk])
        self.check(high, talk, [ask(0, ANSWER0)], [(0, (99,), (1, 1))])
        self.check(N2, ladder(100), [], [(0, (), (1, 2 ** 99)), (None, (), (2 ** 99 - 1, 2 ** 99))])

    def test_refusals(self):
        right = {"kind": F, "talk": TWICE_TALK, "talks": [ANSWER0]}
        talks = strange_but() + [ANSWER0, [ANSWER0, ANSWER0], [], (), [None], [("answer", 2)], ["none"], [["none"]], {0: ANSWER0}]
        talks += [[bush(4001)], [ask(0, ANSWER0, ANSWER1)], [ladder(101)], [COINS, None]]
        for function in (met, asks):
            self.check_refusals(function, right, [
                ("kind", KINDS_WRONG, BadKind), ("talk", STRANGE + [("answer", 2), ladder(101), ask(1, NONE, NONE)], BadTalk),
                ("talks", [value for value in talks if value != (ANSWER0,)], BadTalks),
            ])
            self.refused(BadTalks, function, to(F, N2, N2), NONE, [ANSWER0])
            self.refused(BadTalks, function, to(F, N2, N2), NONE, [ask(0, ANSWER0, ANSWER1), ask(0, ANSWER0, ANSWER1)])
            self.refused(BadTalks, function, N2, NONE, [NONE])
            self.refused(BadKind, function, to(F, N1, *[N2] * 10), NONE, None)


if __name__ == "__main__":
    unittest.main()
