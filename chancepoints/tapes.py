"""Runs that are led by tapes: rows of wholes that tell what is drawn."""

from math import lcm

from chancepoints.errors import BadGrid, BadLength, BadTape
from chancepoints.judging import is_list, is_within
from chancepoints.running import Nodes, beginning, given, stepped
from chancepoints.runs import branching_of
from chancepoints.terms import all_parts, check_program, checked_answers

MOST_GRID = 1000000
MOST_LENGTH = 12


def _grid(program):
    found = 1
    for _, part in all_parts(program):
        if part[0] == "draw":
            for _, bottom in part[1]:
                found = lcm(found, bottom)
    return found


def grid(program):
    """The least whole of which each bottom in the draws of a program is a part."""
    check_program(program)
    return _grid(program)


def _check_grid(program, many):
    """Raise an error unless program is one of a number, and many a whole that its grid divides.

    To how many numbers the program may come is told.
    """
    answers = checked_answers(program)
    if not is_within(many, 1, MOST_GRID):
        raise BadGrid("no whole from 1 to 1000000")
    least = _grid(program)
    if many // least * least != many:
        raise BadGrid("no multiple of the grid of the program")
    return answers


def _check_tape(many, tape):
    if not is_list(tape) or not all([is_within(item, 0, many - 1) for item in tape]):
        raise BadTape("no tape")


def _led_to(weights, many, item):
    """The number to which an item of a tape leads a draw, None for no answer."""
    high = 0
    for number, (top, bottom) in enumerate(weights):
        high += many // bottom * top
        if item < high:
            return number
    return None


class TapeRun:
    """A run of a program of a number that is led by a tape, step by step."""

    def __init__(self, program, many, tape):
        _check_grid(program, many)
        _check_tape(many, tape)
        self.done = 0
        self.used = 0
        self._nodes = Nodes(program)
        self._state = beginning()
        self._many = many
        self._tape = tuple(tape)
        self._come_to = None

    def ahead(self):
        """The path of the expression that is run next; None at the end."""
        if self._come_to is not None:
            return None
        return self._nodes.paths[self._state[0]]

    def step(self):
        """Run the expression that is next; whether there was one that could be run."""
        if self._come_to is not None:
            return False
        node, _, waiting = self._state
        shape = self._nodes.shapes[node]
        if shape[0] == "draw":
            return self._draw(shape[1], waiting)
        self.done += 1
        if shape[0] == "never":
            self._come_to = ("none",)
            return True
        self._go_on(stepped(self._nodes, self._state))
        return True

    def _draw(self, weights, waiting):
        if self.used == len(self._tape):
            self._come_to = ("short",)
            return False
        number = _led_to(weights, self._many, self._tape[self.used])
        self.done += 1
        self.used += 1
        if number is None:
            self._come_to = ("none",)
        else:
            self._go_on(given(self._nodes, number, waiting))
        return True

    def _go_on(self, state):
        self._state = state
        if state[0] == "end":
            self._come_to = ("answer", state[1])

    def end(self):
        """None before the end; then what the run came to."""
        return self._come_to

    def waiting(self):
        """The list, the newest first, of pairs of a word and a path of what waits."""
        found = []
        others = self._state[2]
        while others is not None:
            (word, node, _), others = others
            found.append((word, self._nodes.paths[node]))
        return found


def led(program, many, tape):
    """The pair of what a run that is led by a tape comes to, and of how many items were read."""
    going = TapeRun(program, many, tape)
    while going.step():
        pass
    return going.end(), going.used


def shares(program, many, length):
    """How many tapes of a length lead to each number, to no answer, and are too short."""
    answers = _check_grid(program, many)
    if not is_within(length, 0, MOST_LENGTH):
        raise BadLength("no whole from 0 to 12")
    branching = branching_of(program)
    all_tapes = 1
    for _ in range(length):
        all_tapes *= many
    found = [0] * (answers + 1)
    for answer, draws, (top, bottom), _ in branching.ends:
        if len(branching.told_draws(draws)) <= length:
            found[answers if answer is None else answer] += all_tapes // bottom * top
    return tuple(found) + (all_tapes - sum(found),)
