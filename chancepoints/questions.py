"""Questions to programs of a number: what was drawn in them, given what they came to."""

from chancepoints.errors import BadExpression, BadNumber, BadNumbers, BadPath, BadPaths, BadTake, NoChance
from chancepoints.judging import is_list, is_within
from chancepoints.nodes import is_shaped, nth_name
from chancepoints.products import powered
from chancepoints.telling import Telling
from chancepoints.terms import chain_to, checked_answers, exchanged_at, standing_names
from chancepoints.weights import NOTHING, added, divided, multiplied, total

MOST_PATHS = 4
MOST_NUMBERS = 100


def _draw_at(program, path):
    """The draw to which path leads; BadPaths if it leads to none."""
    try:
        part = chain_to(program, path)[-1][1]
    except BadPath:
        raise BadPaths("a path leads to no expression")
    if part[0] != "draw":
        raise BadPaths("a path leads to no draw")
    return part


def _checked_draws(program, paths):
    """The list of the weights of the draws at paths; BadPaths unless these are right."""
    if not is_list(paths) or not 1 <= len(paths) <= MOST_PATHS:
        raise BadPaths("no list of 1 to 4 paths")
    found = [_draw_at(program, path)[1] for path in paths]
    if len({path: True for path in paths}) < len(paths):
        raise BadPaths("a path stands twice")
    return found


def _new_names(program, many):
    """The list of the first so many names that stand nowhere in a program."""
    standing = standing_names(program)
    found = []
    at = 0
    while len(found) < many:
        if nth_name(at) not in standing:
            found.append(nth_name(at))
        at += 1
    return found


def _opened(program, paths, draws):
    made = program
    names = _new_names(program, len(paths))
    for name, path in zip(names, paths):
        made = exchanged_at(made, path, ("name", name))
    for name, weights in reversed(list(zip(names, draws))):
        made = ("fun", name, ("num", len(weights)), made)
    if not is_shaped(made):
        raise BadExpression("what would come is too large")
    return made


def opened(program, paths):
    """The program that is handed what its draws at paths come to."""
    checked_answers(program)
    return _opened(program, paths, _checked_draws(program, paths))


def _drawn_row(store, row, draws):
    """The row of drawn of a kept row of what comes behind opened."""
    found = []
    for point, chance in row:
        for call in point:
            thing, _, number = store.calls[call]
            chance = multiplied(chance, draws[thing][number])
        if chance != NOTHING:
            found.append((store.told_point(point), chance))
    return tuple(sorted(found))


def _drawn(program, draws):
    """The rows of drawn; program is what comes behind opened."""
    telling = Telling()
    rows = telling.store.tables[telling.table_of(program, {})][1]
    return tuple([_drawn_row(telling.store, row, draws) for row in rows])


def drawn(program, paths):
    """For each number, how often its draws at paths come to which numbers, with the chances."""
    made = opened(program, paths)
    return _drawn(made, _checked_draws(program, paths))


def _drawn_if(program, paths, number):
    """The pair of the row of drawn_if, and the weights of the draws."""
    answers = checked_answers(program)
    draws = _checked_draws(program, paths)
    made = _opened(program, paths, draws)
    if not is_within(number, 0, answers - 1):
        raise BadNumber("no number to which the program may come")
    row = _drawn(made, draws)[number]
    whole = total([chance for _, chance in row])
    if whole == NOTHING:
        raise NoChance("the program never comes to the number")
    return tuple([(point, divided(chance, whole)) for point, chance in row]), draws


def drawn_if(program, paths, number):
    """What was drawn at paths, with the chances of it if the program came to number."""
    return _drawn_if(program, paths, number)[0]


def means(program, paths, number):
    """How often, in the mean, each draw at paths came to each number if the program came to number."""
    row, draws = _drawn_if(program, paths, number)
    found = [[NOTHING] * len(weights) for weights in draws]
    for point, chance in row:
        for thing, _, came in point:
            found[thing][came] = added(found[thing][came], chance)
    return [tuple(weights) for weights in found]


def _taken_draw(program):
    """The weights of the draw that a program takes."""
    if program[0] != "take" or program[2][0] != "draw":
        raise BadTake("no take of a draw")
    return program[2][1]


def _chance_of(store, row, taken):
    """The chance of a kept row if each of its calls has to come to the number that was taken."""
    found = NOTHING
    for point, chance in row:
        if all([store.calls[call][2] == taken for call in point]):
            found = added(found, chance)
    return found


def _check_numbers(numbers, answers):
    if not is_list(numbers) or len(numbers) > MOST_NUMBERS:
        raise BadNumbers("no list of at most 100 numbers")
    if not all([is_within(number, 0, answers - 1) for number in numbers]):
        raise BadNumbers("no list of numbers to which the program may come")


def believed(program, numbers):
    """The chances of what a program took first, if its runs then came to these numbers."""
    answers = checked_answers(program)
    weights = _taken_draw(program)
    _check_numbers(numbers, answers)
    telling = Telling()
    # Behind the take, what is taken is the one thing around, and is asked.
    rows = telling.store.tables[telling.tables_of(program, {})[(3,)]][1]
    often = [numbers.count(number) for number in range(answers)]
    found = []
    for taken, chance in enumerate(weights):
        for many, row in zip(often, rows):
            chance = multiplied(chance, powered(_chance_of(telling.store, row, taken), many))
        found.append(chance)
    whole = total(found)
    if whole == NOTHING:
        raise NoChance("these numbers never come")
    return tuple([divided(chance, whole) for chance in found])
