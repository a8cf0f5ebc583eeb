"""Passes: steps by which a program is worked on that keep its table, and the form behind all of them."""

from chancepoints.coding import Reading, code_of
from chancepoints.errors import BadPass, TooMany
from chancepoints.judging import is_same
from chancepoints.kinding import kind_for, kinds_in
from chancepoints.kinds import arguments_and_answer
from chancepoints.nodes import MOST_LEVELS, MOST_NODES, is_shaped, nth_name, steps_and_parts, with_parts
from chancepoints.running import Nodes, beginning, entered, given, run_on
from chancepoints.terms import all_parts, check_program, exchanged_at, with_free
from chancepoints.weights import ALL, NOTHING


def _named(program):
    """The program with the names that source_of tells."""
    return Reading(code_of(program)).read((), 1)


def _behind_call(called, handed, kind):
    """The pair of the pass of a call of this kind, and what comes; None if there is no pass."""
    if called[0] == "fun":
        # No two bindings have one name, so nothing that stands in handed is bound by called.
        return ("hand", with_free(called[3], called[1], handed))
    if called[0] == "case":
        return ("moved", ("case", called[1], tuple([("call", way, handed) for way in called[2]])))
    if called[0] == "take":
        return ("moved", ("take", called[1], called[2], ("call", called[3], handed)))
    return ("never", ("never", kind)) if called[0] == "never" else None


def _behind_case(asked, ways, kind):
    if asked[0] == "number":
        return ("chosen", ways[asked[1]])
    if asked[0] == "case":
        return ("inner", ("case", asked[1], tuple([("case", inner, ways) for inner in asked[2]])))
    return ("never", ("never", kind)) if asked[0] == "never" else None


def _behind_take(name, taken, body, k):
    ways = [with_free(body, name, ("number", number, k)) for number in range(k)]
    return ("taken", ("case", taken, tuple(ways)))


def _behind_draw(weights):
    k = len(weights)
    if ALL in weights:
        return ("drawn", ("number", weights.index(ALL), k))
    if all([part == NOTHING for part in weights]):
        return ("drawn", ("never", ("num", k)))
    return None


def _behind(part, path, kinds):
    """The pair of the pass of what stands at path, and what comes; None if there is no pass."""
    if part[0] == "call":
        return _behind_call(part[1], part[2], kinds[path])
    if part[0] == "case":
        return _behind_case(part[1], part[2], kinds[path])
    if part[0] == "take":
        return _behind_take(part[1], part[2], part[3], kinds[path + (2,)][1])
    return _behind_draw(part[1]) if part[0] == "draw" else None


def _all_passes(program):
    """The list of pairs of a pass of a program, and the program that comes, with any names."""
    check_program(program)
    named = _named(program)
    kinds = kinds_in(named, {})
    found = []
    for path, part in all_parts(named):
        behind = _behind(part, path, kinds)
        if behind is not None:
            made = exchanged_at(named, path, behind[1])
            if is_shaped(made):
                found.append(((behind[0], path), made))
    return found


def passes(program):
    """The ascending list of all passes of a program for which an expression comes."""
    return sorted([told for told, _ in _all_passes(program)])


def passed(program, word, path):
    """The program that comes by this pass."""
    for told, made in _all_passes(program):
        if is_same((word, path), told):
            return _named(made)
    raise BadPass("no pass of the program")


def _without_sure_draws(expression):
    """The expression in which each draw that is no chance is what it comes to."""
    if expression[0] == "draw":
        behind = _behind_draw(expression[1])
        return expression if behind is None else behind[1]
    parts = [_without_sure_draws(part) for _, part in steps_and_parts(expression)]
    return with_parts(expression, parts)


class Forming:
    """Makes the last form of a program.

    What is run up to a name that is bound in the form, or up to a draw, is what passes leave
    there; so each node of the form is made just once, and nothing is made that does not stay.
    """

    def __init__(self, program):
        self.nodes = Nodes(_without_sure_draws(program))
        self.kinds = []
        self.many = 0

    def _count(self, many, level):
        """Count so many nodes, the deepest one at this level."""
        self.many += many
        if self.many > MOST_NODES or level > MOST_LEVELS:
            raise TooMany(MOST_NODES)

    def form(self, begun, kind, level):
        """The form of what is run from this state on, of this kind; it stands at this level."""
        state = run_on(self.nodes, begun)
        if state[0] == "ask":
            return self._asking(state[1], state[2], kind, level)
        self._count(1, level)
        if state[0] == "end":
            return ("number", state[1], kind[1])
        shape = self.nodes.shapes[state[0]]
        if shape[0] == "never":
            return ("never", kind)
        if shape[0] == "fun":
            return self._fun(state, shape, kind, level)
        if state[2] is None:
            return shape
        self._count(1, level + 1)
        return ("case", shape, self._ways(len(shape[1]), state[2], kind, level + 1))

    def _fun(self, state, shape, kind, level):
        thing = len(self.kinds)
        self.kinds.append(shape[2])
        names = {**state[1], shape[1]: ("ask", thing)}
        body = self.form((self.nodes.parts[state[0]][0], names, None), kind[2], level + 1)
        return ("fun", nth_name(thing), shape[2], body)

    def _ways(self, many, waiting, kind, level):
        """The forms of what is done with each of so many numbers by what waits."""
        return tuple([self.form(given(self.nodes, number, waiting), kind, level) for number in range(many)])

    def _asking(self, thing, waiting, kind, level):
        """The form of a name that is handed all that waits ahead of a case or take, and of that one."""
        handed = []
        while waiting is not None and waiting[0][0] == "handed":
            newest, waiting = waiting
            handed.append(newest[1:])
        first = level if waiting is None else level + 1
        self._count(first - level + 1 + len(handed), first + len(handed))
        kinds, many = arguments_and_answer(self.kinds[thing])
        made = ("name", nth_name(thing))
        for at, part in enumerate(handed):
            made = ("call", made, self.form(entered(part, None), kinds[at], first + len(handed) - at))
        if waiting is None:
            return made
        return ("case", made, self._ways(many, waiting, kind, level + 1))


def last_form(program):
    """The program that comes if passes are done until none can be done."""
    check_program(program)
    return Forming(program).form(beginning(), kind_for(program, {}), 1)


def are_last(program, value):
    """Whether any value is the last form of a program."""
    return is_same(value, last_form(program))
