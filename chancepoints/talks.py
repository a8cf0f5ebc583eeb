"""Talks: how a thing asks, draws and answers, as a tree."""

from chancepoints.errors import BadTalk, TooMany
from chancepoints.judging import is_tuple_of, is_whole
from chancepoints.kinding import kind_for
from chancepoints.kinds import MOST_NUMBERS, arguments_and_answer, check_kind
from chancepoints.nodes import MOST_LEVELS, MOST_NODES, measured, nth_name
from chancepoints.running import Nodes, entered, given, handed_first, run_on
from chancepoints.stores import Store
from chancepoints.terms import check_program
from chancepoints.weights import ALL, NOTHING, added, is_chance_part, lies_below, multiplied, total

MOST_PARTS = 4000
MOST_ROW = 100


def _parts_of_draw(rows, things, k):
    if not isinstance(rows, tuple) or not 1 <= len(rows) <= MOST_NUMBERS:
        return None
    if not all([is_tuple_of(row, 2) and is_chance_part(row[0]) and row[0] != NOTHING for row in rows]):
        return None
    if lies_below(ALL, total([row[0] for row in rows])):
        return None
    return [(row[1], things, k) for row in rows]


def _parts_of_ask(value, things, k):
    _, thing, handed, rows = value
    if not is_whole(thing) or not 0 <= thing < len(things):
        return None
    kinds, many = arguments_and_answer(things[thing])
    if not is_tuple_of(handed, len(kinds)) or not is_tuple_of(rows, many):
        return None
    found = []
    for part, kind in zip(handed, kinds):
        own, answer = arguments_and_answer(kind)
        found.append((part, things + own, answer))
    return found + [(part, things, k) for part in rows]


def _parts_of(value, things, k):
    """The parts directly in a talk, each with the kinds of the things and the k that it has.

    None if value is no talk with these things, around it and its own ones, and this k, whatever
    stands in the places of its parts.
    """
    if is_tuple_of(value, 1):
        return [] if value[0] == "none" else None
    if is_tuple_of(value, 2) and value[0] == "answer":
        return [] if is_whole(value[1]) and 0 <= value[1] < k else None
    if is_tuple_of(value, 2) and value[0] == "draw":
        return _parts_of_draw(value[1], things, k)
    if is_tuple_of(value, 4) and value[0] == "ask":
        return _parts_of_ask(value, things, k)
    return None


def is_closed_talk(kind, value):
    """Whether any value is a closed talk of what surely is a kind."""
    things, k = arguments_and_answer(kind)
    waiting = [(value, things, k, 1)]
    many = 0
    while waiting:
        talk, around, answer, level = waiting.pop()
        inner = _parts_of(talk, around, answer)
        many += 1
        if inner is None or level > MOST_ROW or many + len(waiting) + len(inner) > MOST_PARTS:
            return False
        waiting.extend([(part, own, least, level + 1) for part, own, least in inner])
    return True


def is_talk(kind, value):
    """Whether any value is a closed talk of this kind."""
    check_kind(kind)
    return is_closed_talk(kind, value)


def check_talk(kind, talk):
    """Raise BadTalk unless talk is a closed talk of what surely is a kind."""
    if not is_closed_talk(kind, talk):
        raise BadTalk("no closed talk of the kind")


class Talking:
    """Runs an expression as a talk: its own things are asked, and its draws are told."""

    def __init__(self, program):
        self.nodes = Nodes(program)
        self.many = 0

    def thing_talk(self, thing, kind, things, level):
        """The talk of a thing of this kind with things of these kinds around it."""
        own = arguments_and_answer(kind)[0]
        handed = [("ask", len(things) + at) for at in range(len(own))]
        return self._talk(entered(thing, handed_first(handed)), things + own, level)

    def _talk(self, begun, things, level):
        self.many += 1
        if self.many > MOST_PARTS or level > MOST_ROW:
            raise TooMany(MOST_PARTS)
        state = run_on(self.nodes, begun)
        if state[0] == "end":
            return ("answer", state[1])
        if state[0] == "ask":
            return self._ask(state[1], state[2], things, level)
        shape = self.nodes.shapes[state[0]]
        if shape[0] == "draw":
            return self._draw(shape[1], state[2], things, level)
        return ("none",)

    def _draw(self, weights, waiting, things, level):
        rows = []
        for number, share in enumerate(weights):
            if share != NOTHING:
                rows.append((share, self._talk(given(self.nodes, number, waiting), things, level + 1)))
        return ("draw", tuple(rows)) if rows else ("none",)

    def _ask(self, thing, waiting, things, level):
        kinds, many = arguments_and_answer(things[thing])
        handed = []
        for kind in kinds:
            newest, waiting = waiting
            handed.append(self.thing_talk(newest[1:], kind, things, level + 1))
        rows = []
        for number in range(many):
            rows.append(self._talk(given(self.nodes, number, waiting), things, level + 1))
        return ("ask", thing, tuple(handed), tuple(rows))


def talk_of(program):
    """The talk of a program."""
    check_program(program)
    return Talking(program).thing_talk((0, {}), kind_for(program, {}), (), 1)


def _kept_table(store, talk, kind, around):
    """The number of the table that a talk of this kind tells, around being the kinds of things."""
    own, k = arguments_and_answer(kind)
    things = around + own
    rows = [{} for _ in range(k)]
    waiting = [(talk, (), ALL)]
    while waiting:
        part, calls, chance = waiting.pop()
        if part[0] == "answer":
            point = tuple(sorted(calls))
            rows[part[1]][point] = added(rows[part[1]].get(point, NOTHING), chance)
        elif part[0] == "draw":
            waiting.extend([(inner, calls, multiplied(chance, share)) for share, inner in part[1]])
        elif part[0] == "ask":
            kinds = arguments_and_answer(things[part[1]])[0]
            tables = tuple([_kept_table(store, inner, one, things) for inner, one in zip(part[2], kinds)])
            for number, inner in enumerate(part[3]):
                call = store.call_number(part[1], tables, number)
                waiting.append((inner, calls + (call,), chance))
    made = [tuple(sorted([(point, row[point]) for point in row])) for row in rows]
    return store.table_number(len(own), tuple(made))


def told_by(kind, talk):
    """The table that a talk of this kind tells."""
    check_kind(kind)
    check_talk(kind, talk)
    store = Store()
    made = _kept_table(store, talk, kind, ())
    store.check_size(made)
    return store.told(made)


def _thing_program(talk, kind, around):
    """The program of a talk of this kind, with things of these kinds around it."""
    own, k = arguments_and_answer(kind)
    made = _body(talk, around + own, k)
    for at in range(len(own) - 1, -1, -1):
        made = ("fun", nth_name(len(around) + at), own[at], made)
    return made


def _body(talk, things, k):
    """What stands within the funs of the program of a talk with all these things."""
    word = talk[0]
    if word == "answer":
        return ("number", talk[1], k)
    if word == "none":
        return ("never", ("num", k))
    if word == "draw":
        ways = tuple([_body(part, things, k) for _, part in talk[1]])
        return ("case", ("draw", tuple([share for share, _ in talk[1]])), ways)
    asked = ("name", nth_name(talk[1]))
    for part, kind in zip(talk[2], arguments_and_answer(things[talk[1]])[0]):
        asked = ("call", asked, _thing_program(part, kind, things))
    return ("case", asked, tuple([_body(part, things, k) for part in talk[3]]))


def program_of(kind, talk):
    """The program of a talk of this kind."""
    check_kind(kind)
    check_talk(kind, talk)
    made = _thing_program(talk, kind, ())
    nodes, levels = measured(made)
    if nodes > MOST_NODES:
        raise TooMany(MOST_NODES)
    if levels > MOST_LEVELS:
        raise TooMany(MOST_LEVELS)
    return made
