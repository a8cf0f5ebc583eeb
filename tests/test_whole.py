"""The whole package: points 1 to 6. One program by all roads, and what point 2 guarantees."""

import random
import unittest
from fractions import Fraction

from chancepoints import errors
from chancepoints.alike import alike, chances_in, put_in
from chancepoints.apart import parted
from chancepoints.asking import asked
from chancepoints.booktexts import book_text, read_book
from chancepoints.books import Book
from chancepoints.coding import compiled, source_of
from chancepoints.coins import alike_for_coins
from chancepoints.desk import Desk
from chancepoints.errors import BadExpression, NoMaker, TooMany
from chancepoints.lots import first_short, made
from chancepoints.manners import run_by
from chancepoints.meaning import table
from chancepoints.meeting import asks, met
from chancepoints.passing import last_form, passed, passes
from chancepoints.putting import handed
from chancepoints.runs import run
from chancepoints.sure import is_sure, sure_alike, sure_parted
from chancepoints.tables import by_things, chances
from chancepoints.talks import program_of, talk_of, told_by
from chancepoints.tapes import TapeRun, grid, shares
from chancepoints.terms import kind_of, same_but_names
from chancepoints.texts import read, read_table, table_text, text
from chancepoints.tries import counted, counting, enough_tries, least_tries
from chancepoints.weighing import chances_of, chances_with
from tests.oracle import KINDS, Maker, call, chances_of as slow_chances, frac, fun, is_small, num, split, table_of, to
from tests.test_apart import HIGH
from tests.walks import all_walks

N2, N3 = num(2), num(3)
F = to(N2, N2)
G = to(F, N2)


def drawn(seed, many, kinds):
    source = random.Random(seed)
    found = []
    while len(found) < many:
        kind = source.choice(kinds)
        program = Maker(source, source.random() < 0.4, busy=source.random() < 0.5).make(kind, source.choice([2, 3]))
        if is_small(program):
            found.append((kind, program))
    return found


class AllRoads(unittest.TestCase):
    def check_tables(self, kind, program):
        """How many of the roads to its table could be gone."""
        expected = table(program)
        self.assertEqual(table_of(program, kind), expected)
        roads = 1
        written = text(program)
        self.assertEqual(expected, table(read(written)))
        self.assertEqual(expected, table(source_of(compiled(program))))
        self.assertEqual(expected, read_table(kind, table_text(kind, expected)))
        book = Book()
        book.define("p", program)
        self.assertEqual(expected, book.table("p"))
        again = read_book(book_text(book))
        self.assertEqual(expected, again.table("p"))
        self.assertTrue(same_but_names(program, again.whole("p")))
        desk = Desk("")
        desk.say("let p = " + written)
        self.assertEqual(["table " + table_text(kind, expected)], ["table " + line for line in desk.say("table p")])
        for road in (self.by_talk, self.by_program_of_talk, self.by_last_form, self.by_passes, self.by_made):
            try:
                self.assertEqual(expected, road(kind, program))
                roads += 1
            except (TooMany, BadExpression):
                continue
        return roads

    def by_talk(self, kind, program):
        return told_by(kind, talk_of(program))

    def by_program_of_talk(self, kind, program):
        return table(program_of(kind, talk_of(program)))

    def by_last_form(self, kind, program):
        return table(last_form(program))

    def by_passes(self, kind, program):
        for _ in range(4):
            found = passes(program)
            if found:
                program = passed(program, *found[len(found) // 2])
        return table(program)

    def by_made(self, kind, program):
        if kind[0] == "num" or kind[1][0] != "num" or kind[2][0] != "num":
            return table(program)
        return table(made(kind, table(program)))

    def test_tables(self):
        roads = 0
        told = 0
        for kind, program in drawn(11, 150, KINDS + HIGH):
            try:
                roads += self.check_tables(kind, program)
                told += 1
            except TooMany:
                continue
        self.assertGreater(told, 130)
        self.assertGreater(roads, 5 * told)

    def test_chances(self):
        told = 0
        for kind, program in drawn(12, 150, [N2, N3]):
            if all_walks(program, 300) is None:
                continue
            expected = slow_chances(program, kind[1])
            self.assertEqual(expected, run(program))
            self.assertEqual(expected, chances(table(program)))
            self.assertEqual(expected, chances_of(program))
            self.assertEqual(expected, run_by(program, "name"))
            self.assertEqual(expected, met(kind, talk_of(program), []))
            many = grid(program)
            if many <= 1000000:
                found = shares(program, many, 12)
                if found[-1] == 0:
                    self.assertEqual([frac(part) for part in expected], [Fraction(part, many ** 12) for part in found[:kind[1]]])
            told += 1
        self.assertGreater(told, 120)

    def test_chances_of_calls(self):
        source = random.Random(13)
        told = 0
        for kind, program in drawn(14, 200, [F, to(N3, N2), to(N2, N2, N2), G, to(G, N2), to(F, N2, N3)]):
            maker = Maker(source, source.random() < 0.4)
            things = [maker.make(part, 2) for part in split(kind)[0]]
            whole = call(program, *things)
            if not is_small(whole) or all_walks(whole, 300) is None:
                continue
            try:
                closed, left = table(program), kind
                for thing in things:
                    closed, left = handed(left, closed, table(thing)), left[2]
                talks = [talk_of(thing) for thing in things]
                expected = chances(closed)
                self.assertEqual(expected, met(kind, talk_of(program), talks))
            except TooMany:
                continue
            self.assertEqual(expected, run(whole))
            self.assertEqual(expected, chances_with(program, things))
            self.assertEqual(expected, chances_of(whole))
            self.assertEqual(expected, run_by(whole, "name"))
            self.assertEqual(1, sum(frac(row[2]) for row in asks(kind, talk_of(program), talks)))
            told += 1
        self.assertGreater(told, 150)


class Guarantees(unittest.TestCase):
    def test_unlike_ones_are_told_apart(self):
        # (b): a surrounding, and how many tries of it are enough.
        source = random.Random(21)
        seen = 0
        for kind, one in drawn(22, 120, [N2, F, G, to(N2, N2, N2), to(F, N2, N2)]):
            other = Maker(source).make(kind, 2)
            found = parted(one, other)
            self.assertIs(alike(one, other), found is None)
            if found is None:
                continue
            _, surrounding, first, second = found
            self.assertEqual(first, chances_in(kind, surrounding, table(one)))
            number = [a == b for a, b in zip(first, second)].index(False)
            tries, bar = enough_tries(first[number], second[number], (1, 10))
            try:
                fewest = least_tries(first[number], second[number], (1, 10))
                self.assertLessEqual(fewest[0], tries)
            except TooMany:
                self.assertGreater(tries, 40)
            self.assertLessEqual(bar, tries)
            seen += 1
        self.assertGreater(seen, 80)

    def test_sure_ones(self):
        # (c): unlike ones may be sure-alike.
        source = random.Random(23)
        seen = 0
        for kind, one in drawn(24, 120, [N2, F, G, to(N2, N2, N2)]):
            other = Maker(source, True).make(kind, 2)
            self.assertIs(sure_alike(one, other), sure_parted(one, other) is None)
            if alike(one, other):
                self.assertIs(True, sure_alike(one, other))
            found = sure_parted(one, other)
            if found and is_sure(one) and is_sure(other):
                for part in found[2:]:
                    self.assertEqual(1, sum(frac(chance) for chance in part))
                seen += 1
        self.assertGreater(seen, 20)

    def test_counting_of_a_surrounding_that_parts(self):
        one, other = fun("x", N2, ("name", "x")), fun("x", N2, ("case", ("name", "x"), (("name", "x"), ("number", 1, 2))))
        _, surrounding, first, second = sure_parted(one, other)
        made_ = counting(F, surrounding, 0, 8, 4)
        for program, part in ((one, first), (other, second)):
            self.assertEqual(counted(part, 0, 8, 4), chances_of(put_in(F, made_, program)))
            self.assertEqual(counted(part, 0, 8, 4), chances_in(F, made_, table(program)))

    def test_need_and_name(self):
        # (e): for programs in the last form, which are bare if their kind is plain.
        for kind, program in drawn(25, 150, [F, to(N3, N2), to(N2, N2, N2)]):
            try:
                form = last_form(program)
            except TooMany:
                continue
            once = all(most <= 1 for _, most in by_things(kind, table(form)))
            self.assertIs(once, asked(form, "need") == asked(form, "name"))

    def test_lots(self):
        # (f): each program's table is made, and what is heavier than that is short somewhere.
        for kind, program in drawn(26, 100, [F, to(N3, N2)]):
            closed = table(program)
            self.assertIsNone(first_short(kind, closed))
            points = [(number, at) for number, row in enumerate(closed) for at in range(len(row))]
            if points:
                number, at = points[0]
                rows = [list(row) for row in closed]
                point, _ = rows[number][at]
                rows[number][at] = (point, (10 ** 9, 1))
                heavy = tuple(tuple(row) for row in rows)
                self.assertIsNotNone(first_short(kind, heavy))
                with self.assertRaises(NoMaker):
                    made(kind, heavy)

    def test_coins(self):
        # (g): alike for all coins, though not in all surroundings.
        source = random.Random(27)
        seen = 0
        for kind, one in drawn(28, 100, [F, to(N2, N2, N2)]):
            other = Maker(source, True).make(kind, 2)
            if sure_alike(one, other):
                self.assertIs(True, alike_for_coins(one, other))
            self.assertIs(sure_alike(one, other), alike_for_coins(one, other))
            seen += alike_for_coins(one, other)
        self.assertGreater(seen, 3)


class Objects(unittest.TestCase):
    def test_equal_to_nothing_of_another_kind(self):
        program = ("number", 0, 2)
        made_ = [Book(), Desk(), TapeRun(program, 1, []), errors.TooMany(4000)]
        others = [None, 0, "", [], (), {}, program]
        for at, one in enumerate(made_):
            for other in others + made_[:at] + made_[at + 1:]:
                self.assertFalse(one == other)
                self.assertTrue(one != other)

    def test_none_can_be_iterated_over(self):
        for one in [Book(), Desk(), TapeRun(("number", 0, 2), 1, []), errors.TooMany(4000)]:
            with self.assertRaises(TypeError):
                list(one)
            with self.assertRaises(TypeError):
                iter(one)

    def test_kinds_of_drawn_programs(self):
        for kind, program in drawn(29, 60, KINDS + HIGH):
            self.assertEqual(kind, kind_of(program))


if __name__ == "__main__":
    unittest.main()
