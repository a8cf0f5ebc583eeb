"""The table of a program."""

from chancepoints.errors import BadProgram
from chancepoints.telling import Telling
from chancepoints.terms import is_program


def table(program):
    """The table of a program, with nothing around it."""
    if not is_program(program):
        raise BadProgram("no program")
    telling = Telling()
    return telling.store.told(telling.table_of(program, {}))
