"""Macros: machines whose commands do whole rows."""

from math import gcd

from endsandround.common import first_not_below, is_sequence
from endsandround.errors import InvalidRow
from endsandround.machines import Machine, effect


def with_macros(machine, rows):
    """The machine with the same states whose commands do these rows."""
    if not is_sequence(rows) or len(rows) == 0:
        raise InvalidRow(0)
    for at, row in enumerate(rows):
        if not is_sequence(row) or len(row) == 0 or first_not_below(row, machine.commands) is not None:
            raise InvalidRow(at)
    singles = [effect(machine, row) for row in rows]
    return Machine(len(rows), [[single[state] for single in singles] for state in range(machine.states)])


def macro_triple(triple, length):
    """The three numbers of the machine whose commands are all rows of a length, by those of the machine, or None."""
    if triple is None:
        return None
    first, last, step = triple
    return (first + length - 1) // length, (last + length - 1) // length, step // gcd(step, length)
