"""Runs of an expression, step by step: what is run next, what names stand for, and what waits.

A *state* is a triple. Of a run that goes on it has the number of the node that is run next, the
dict of what names stand for there, and what waits. ("end", n, waiting) is the end with the answer
n, ("ask", v, waiting) stands ahead of an ask of a thing of which nothing is known.

What a name stands for is a number, or a *thing*: the pair of the first two items of the state in
which it is run. What waits is None, or a pair of the newest that waits and the others; one that
waits is a triple ("handed", the two items of the thing), or ("case" or "take", its node, names).
So nothing in a state is ever changed, and many runs can go on from one.
"""

from chancepoints.nodes import steps_and_parts
from chancepoints.weights import ALL, NOTHING, subtracted, total


class Nodes:
    """The nodes of an expression by numbers from 0 on, each ahead of its parts, these in order."""

    def __init__(self, expression):
        self.shapes = []
        self.paths = []
        self.parts = []
        self._note(expression, ())

    def _note(self, expression, path):
        number = len(self.shapes)
        self.shapes.append(expression)
        self.paths.append(path)
        self.parts.append(())
        inner = [self._note(part, path + steps) for steps, part in steps_and_parts(expression)]
        self.parts[number] = tuple(inner)
        return number


def beginning():
    """The state in which a program is run that is handed nothing."""
    return (0, {}, None)


def entered(thing, waiting):
    """The state in which a thing is run, or asked, where all this waits."""
    return (thing[0], thing[1], waiting)


def handed_first(things):
    """What waits if things are handed, the first one of the list being the newest."""
    waiting = None
    for thing in reversed(things):
        waiting = (("handed", thing[0], thing[1]), waiting)
    return waiting


def given(nodes, number, waiting):
    """The state behind a number that is given to the newest that waits; it is no handed thing."""
    if waiting is None:
        return ("end", number, None)
    (word, node, names), others = waiting
    if word == "case":
        return (nodes.parts[node][1 + number], names, others)
    return (nodes.parts[node][1], {**names, nodes.shapes[node][1]: number}, others)


def _behind_name(nodes, worth, waiting):
    if isinstance(worth, int):
        return given(nodes, worth, waiting)
    return entered(worth, waiting)


def stepped(nodes, state):
    """The state behind running one expression.

    It is None where more has to be told: at a draw, at a never, at a fun that is handed nothing,
    at an ask, and at the end.
    """
    node, names, waiting = state
    if isinstance(node, str):
        return None
    shape = nodes.shapes[node]
    word = shape[0]
    parts = nodes.parts[node]
    if word == "name":
        return _behind_name(nodes, names[shape[1]], waiting)
    if word == "number":
        return given(nodes, shape[1], waiting)
    if word == "call":
        return (parts[0], names, (("handed", parts[1], names), waiting))
    if word in ("case", "take"):
        return (parts[0], names, ((word, node, names), waiting))
    if word == "fun" and waiting is not None:
        newest, others = waiting
        return (parts[0], {**names, shape[1]: newest[1:]}, others)
    return None


def run_on(nodes, state):
    """The first state from this one on behind which more has to be told."""
    following = state
    while following is not None:
        state = following
        following = stepped(nodes, state)
    return state


def choices(weights):
    """The list of pairs (number, chance) of all that a draw may come to, None for no answer."""
    found = [(number, share) for number, share in enumerate(weights) if share[0] > 0]
    left = subtracted(ALL, total(weights))
    if left != NOTHING:
        found.append((None, left))
    return found
