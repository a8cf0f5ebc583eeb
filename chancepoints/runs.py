"""Runs of programs of a number: all their branches, and how often what is in them is run."""

from chancepoints.errors import TooMany
from chancepoints.running import Nodes, beginning, choices, given, stepped
from chancepoints.terms import chain_to, checked_answers
from chancepoints.weights import ALL, NOTHING, added, multiplied

MOST_BRANCHES = 4000


class Branching:
    """Runs a program along all its branches, in their order.

    A run that has begun is a quadruple: its state, what was drawn (None, or a pair of the last
    draw, with its number, and those ahead), the chance of that, and how often the node that is
    watched was run. In ends the first item is the answer instead. visits tells, for each node,
    how often it is run in the mean, if that is wanted.
    """

    def __init__(self, program, watched, is_visiting):
        self.nodes = Nodes(program)
        self.watched = watched
        self.visits = [NOTHING] * len(self.nodes.shapes) if is_visiting else None
        self.ends = []
        self.pending = [(beginning(), None, ALL, 0)]

    def go(self):
        """Run all branches."""
        while self.pending:
            self._go_on(self.pending.pop())
            # Each run that has begun leads to one branch at least.
            if len(self.ends) + len(self.pending) > MOST_BRANCHES:
                raise TooMany(MOST_BRANCHES)

    def _go_on(self, begun):
        """Run up to the next draw, or to the end; all that is run here has one chance."""
        state, draws, chance, many = begun
        counts = {}
        following = state
        while following is not None:
            state = following
            counts[state[0]] = counts.get(state[0], 0) + 1
            following = stepped(self.nodes, state)
        many += counts.get(self.watched, 0)
        self._visit(counts, chance)
        node, answer, waiting = state
        if node == "end":
            self.ends.append((answer, draws, chance, many))
        elif self.nodes.shapes[node][0] == "draw":
            self._draw(node, waiting, draws, chance, many)
        else:
            self.ends.append((None, draws, chance, many))

    def _visit(self, counts, chance):
        if self.visits is None:
            return
        for node in counts:
            if node != "end":
                worth = multiplied(chance, (counts[node], 1))
                self.visits[node] = added(self.visits[node], worth)

    def _draw(self, node, waiting, draws, chance, many):
        made = []
        for number, share in choices(self.nodes.shapes[node][1]):
            state = ("end", None, None) if number is None else given(self.nodes, number, waiting)
            made.append((state, ((node, number), draws), multiplied(chance, share), many))
        self.pending.extend(list(reversed(made)))

    def told_draws(self, draws):
        """The tuple of pairs of a path to a draw and its number, in the order of the run."""
        found = []
        while draws is not None:
            (node, number), draws = draws
            found.append((self.nodes.paths[node], number))
        return tuple(reversed(found))

    def chances(self, many):
        """The tuple of the chances of so many numbers."""
        found = [NOTHING] * many
        for answer, _, chance, _ in self.ends:
            if answer is not None:
                found[answer] = added(found[answer], chance)
        return tuple(found)


def branching_of(program, watched=None, is_visiting=False):
    """All branches of what surely is a program of a number."""
    branching = Branching(program, watched, is_visiting)
    branching.go()
    return branching


def branches(program):
    """The list of all branches of a program of a number: triples (draws, answer, weight)."""
    checked_answers(program)
    branching = branching_of(program)
    return [(branching.told_draws(draws), answer, chance) for answer, draws, chance, _ in branching.ends]


def run(program):
    """The tuple of the chances of the numbers of a program, summed up from its branches."""
    many = checked_answers(program)
    return branching_of(program).chances(many)


def how_often(program, path):
    """The list of triples (answer, n, weight): with which chance what is at path is run n times."""
    many = checked_answers(program)
    chain_to(program, path)
    branching = branching_of(program, Nodes(program).paths.index(path))
    found = {}
    for answer, _, chance, times in branching.ends:
        # The number behind all others stands for no answer, which comes last.
        key = (many if answer is None else answer, times)
        found[key] = added(found.get(key, NOTHING), chance)
    return [(None if key[0] == many else key[0], key[1], found[key]) for key in sorted(found)]


def means(program):
    """The dict from all paths to how often, in the mean, what is there is run."""
    checked_answers(program)
    branching = branching_of(program, None, True)
    return {path: worth for path, worth in zip(branching.nodes.paths, branching.visits)}
