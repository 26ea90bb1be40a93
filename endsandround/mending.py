"""Mending: which commands to bar, so that three numbers of a machine are no worse than those that are wished."""

from itertools import combinations

from endsandround.common import is_below
from endsandround.court import numbers
from endsandround.errors import InvalidTriple, Refused
from endsandround.machines import Machine
from endsandround.triples import is_triple


def without(machine, barred):
    """The machine without some commands; the others are numbered anew."""
    if not isinstance(barred, tuple):
        raise Refused(0)
    for at, command in enumerate(barred):
        if not is_below(command, machine.commands) or (at > 0 and command <= barred[at - 1]):
            raise Refused(at)
    if len(barred) == machine.commands:
        raise Refused(machine.commands)
    left = [command for command in range(machine.commands) if command not in barred]
    return Machine(len(left), [[entry[command] for command in left] for entry in machine.steps])


def _check_wish(wish):
    if not is_triple(wish):
        raise InvalidTriple(0)


def serves(triple, wish):
    """Whether a triple, or None, serves a wish."""
    _check_wish(wish)
    if triple is None:
        return False
    return triple[0] <= wish[0] and triple[1] <= wish[1] and wish[2] % triple[2] == 0


def is_mended(machine, wish, barred):
    """Whether the numbers of the machine without some commands serve a wish."""
    _check_wish(wish)
    return serves(numbers(without(machine, barred)), wish)


def least_mends(machine, wish):
    """All tuples of barred commands that mend, of which no command can be let in again, ascending."""
    _check_wish(wish)
    found = []
    # Whatever bars more than what mends does so, too, so only what holds none of those found is tried.
    for many in range(machine.commands):
        for barred in list(combinations(range(machine.commands), many)):
            if not any([_holds(barred, less) for less in found]) and is_mended(machine, wish, barred):
                found.append(barred)
    return tuple(sorted(found))


def _holds(barred, less):
    return all([command in barred for command in less])


def reasons(machine, wish, barred):
    """For each command of a tuple that mends whether it does not do so without this command."""
    _check_wish(wish)
    without(machine, barred)
    fewer = [tuple(other for other in barred if other != command) for command in barred]
    return tuple(not is_mended(machine, wish, others) for others in fewer)
