"""The table of a program."""

from chancepoints.telling import Telling
from chancepoints.terms import check_program


def table(program):
    """The table of a program, with nothing around it."""
    check_program(program)
    telling = Telling()
    return telling.store.told(telling.table_of(program, {}))
