"""The chances of programs, worked out from their parts, without tables."""

from chancepoints.errors import BadThings
from chancepoints.judging import is_list
from chancepoints.kinding import kind_for, kinds_in
from chancepoints.kinds import arguments_and_answer
from chancepoints.nodes import binds_at, steps_and_parts
from chancepoints.terms import check_program, checked_answers, is_program
from chancepoints.weights import ALL, NOTHING, added, multiplied


class Weighing:
    """Works out the chances of expressions that are handed things, each of them just once.

    An expression is told by the number of its node, a quadruple: itself, the nodes of its parts,
    its free names, its kind. A thing is told by its number, too: that of the pair of None and the
    chances of a number, or of the node of a function and the things that its free names stand
    for. What is worked out is kept by a node, the things of its free names and those that it is
    handed; what waits for it stands in a list, since one may rest on thousands of others.
    """

    def __init__(self):
        self.nodes = []
        self.things = []
        self.thing_numbers = {}
        self.known = {}

    def take_in(self, expression, names):
        """The number of the node of an expression that has a kind for a dict of names."""
        return self._take_in(expression, (), kinds_in(expression, names))

    def _take_in(self, expression, path, kinds):
        parts = []
        free = {}
        if expression[0] == "name":
            free[expression[1]] = True
        for steps, part in steps_and_parts(expression):
            inner = self._take_in(part, path + steps, kinds)
            parts.append(inner)
            for name in self.nodes[inner][2]:
                if not binds_at(expression, steps) or name != expression[1]:
                    free[name] = True
        self.nodes.append((expression, parts, sorted(free), kinds[path]))
        return len(self.nodes) - 1

    def _thing(self, told):
        if told not in self.thing_numbers:
            self.thing_numbers[told] = len(self.things)
            self.things.append(told)
        return self.thing_numbers[told]

    def _number(self, number, k):
        """The chances of a number."""
        return tuple([ALL if at == number else NOTHING for at in range(k)])

    def _key(self, node, names, handed):
        """What the chances of a node are kept by, names being a dict to things."""
        return (node, tuple([names[name] for name in self.nodes[node][2]]), handed)

    def thing(self, node):
        """The thing that a node without free names is."""
        if self.nodes[node][3][0] == "num":
            return self._thing((None, self.chances(node, {}, ())))
        return self._thing((node, ()))

    def chances(self, node, names, handed):
        """The tuple of the chances of the numbers of a node that is handed all that it wants."""
        wanted = self._key(node, names, handed)
        waiting = [wanted]
        while waiting:
            key = waiting[-1]
            if key in self.known:
                waiting.pop()
                continue
            found = self._step(key)
            if found[0] is None:
                self.known[key] = found[1]
            else:
                waiting.append(found)
        return self.known[wanted]

    def _step(self, key):
        """The pair of None and the chances, or the key of what has to be known first."""
        node, things, handed = key
        expression, parts, free, kind = self.nodes[node]
        names = {name: thing for name, thing in zip(free, things)}
        word = expression[0]
        if word == "name":
            return self._step_name(names[expression[1]], handed)
        if word == "number":
            return (None, self._number(expression[1], expression[2]))
        if word == "draw":
            return (None, expression[1])
        if word == "fun":
            return self._chances_or_key(parts[0], {**names, expression[1]: handed[0]}, handed[1:])
        if word == "call":
            return self._step_call(parts, names, handed)
        nothing = [NOTHING] * arguments_and_answer(kind)[1]
        if word == "never":
            return (None, tuple(nothing))
        return self._step_sum(node, names, handed, nothing)

    def _chances_or_key(self, node, names, handed):
        key = self._key(node, names, handed)
        if key in self.known:
            return (None, self.known[key])
        return key

    def _step_name(self, thing, handed):
        node, told = self.things[thing]
        if node is None:
            return (None, told)
        names = {name: inner for name, inner in zip(self.nodes[node][2], told)}
        return self._chances_or_key(node, names, handed)

    def _step_call(self, parts, names, handed):
        expression, _, free, kind = self.nodes[parts[1]]
        if expression[0] == "name":
            thing = names[expression[1]]
        elif kind[0] == "num":
            given = self._chances_or_key(parts[1], names, ())
            if given[0] is not None:
                return given
            thing = self._thing(given)
        else:
            thing = self._thing((parts[1], tuple([names[name] for name in free])))
        return self._chances_or_key(parts[0], names, (thing,) + handed)

    def _step_sum(self, node, names, handed, found):
        """The step of a case or take: the sum, over the numbers of what is run first."""
        expression, parts, _, _ = self.nodes[node]
        first = self._chances_or_key(parts[0], names, ())
        if first[0] is not None:
            return first
        for number, share in enumerate(first[1]):
            if share == NOTHING:
                continue
            if expression[0] == "case":
                way = self._chances_or_key(parts[1 + number], names, handed)
            else:
                taken = self._thing((None, self._number(number, len(first[1]))))
                way = self._chances_or_key(parts[1], {**names, expression[1]: taken}, handed)
            if way[0] is not None:
                return way
            found = [added(one, multiplied(share, part)) for one, part in zip(found, way[1])]
        return (None, tuple(found))


def chances_of(program):
    """The tuple of the chances of the numbers of a program whose kind has no arguments."""
    checked_answers(program)
    weighing = Weighing()
    return weighing.chances(weighing.take_in(program, {}), {}, ())


def chances_with(program, things):
    """The tuple of the chances of the numbers of a program that is handed these programs."""
    check_program(program)
    kinds = arguments_and_answer(kind_for(program, {}))[0]
    if not is_list(things) or len(things) != len(kinds):
        raise BadThings("no list of as many programs as the program wants")
    for part, kind in zip(things, kinds):
        if not is_program(part) or kind_for(part, {}) != kind:
            raise BadThings("no program of the kind that is wanted")
    weighing = Weighing()
    handed = [weighing.thing(weighing.take_in(part, {})) for part in things]
    return weighing.chances(weighing.take_in(program, {}), {}, tuple(handed))
