"""Machines, rows of commands, and the effects that rows have."""

from endsandround.common import (
    LotChain,
    first_not_below,
    first_row,
    is_below,
    is_integer,
    is_sequence,
    is_tuple_of,
)
from endsandround.errors import InvalidMachine, InvalidRow, Refused


class Machine:
    """A machine: `steps[state][command]` is the next state."""

    def __init__(self, commands, steps):
        if not is_integer(commands) or commands < 1:
            raise InvalidMachine(0)
        if not is_sequence(steps) or len(steps) == 0:
            raise InvalidMachine(1)
        for state, entry in enumerate(steps):
            if not is_sequence(entry) or len(entry) != commands or first_not_below(entry, len(steps)) is not None:
                raise InvalidMachine(2 + state)
        self.commands = commands
        self.states = len(steps)
        self.steps = tuple(tuple(entry) for entry in steps)

    def __eq__(self, other):
        return isinstance(other, Machine) and self.commands == other.commands and self.steps == other.steps


def checked_row(commands, value):
    """Any value, a sequence of commands, as a row."""
    if not is_sequence(value):
        raise InvalidRow(0)
    wrong = first_not_below(value, commands)
    if wrong is not None:
        raise InvalidRow(wrong)
    return tuple(value)


def end_state(machine, state, row):
    """The state to which a row leads a state."""
    if not is_below(state, machine.states):
        raise Refused(0)
    return led(machine, state, checked_row(machine.commands, row))


def led(machine, state, row):
    """The state to which a row, known to be one, leads a state."""
    for command in row:
        state = machine.steps[state][command]
    return state


def are_parted(machine, state, row, other):
    """Whether two rows, known to be such, lead a state to different states."""
    return led(machine, state, row) != led(machine, state, other)


def is_row_and_state(machine, many, value):
    """Whether any value is a pair of a row of so many commands and a state."""
    if not is_tuple_of(2, value):
        return False
    row, state = value
    if not is_tuple_of(many, row) or not is_below(state, machine.states):
        return False
    return first_not_below(row, machine.commands) is None


def effect(machine, row):
    """The states to which a row leads each state."""
    ends = list(range(machine.states))
    for command in checked_row(machine.commands, row):
        ends = [machine.steps[state][command] for state in ends]
    return tuple(ends)


def followed(one, other):
    """The effect of a row with the effect `one` and then a row with the effect `other`."""
    return tuple(other[state] for state in one)


def command_effects(machine):
    """The effects of the rows of a single command, command by command."""
    return tuple(tuple(entry[command] for entry in machine.steps) for command in range(machine.commands))


class Effects:
    """The effects of rows, numbered as they are met, as numbers are compared faster than tuples.

    `found` has them by their numbers; 0 is that of the empty row.
    """

    def __init__(self, machine):
        self.singles = command_effects(machine)
        self.found = [effect(machine, ())]
        self.numbers = {self.found[0]: 0}
        self.targets = {}

    def number_of(self, wanted):
        """The number of an effect."""
        if wanted not in self.numbers:
            self.numbers[wanted] = len(self.found)
            self.found.append(wanted)
        return self.numbers[wanted]

    def with_command(self, number):
        """The numbers of the effects of a row, which has the effect with a number, and one more command behind."""
        if number not in self.targets:
            ahead = self.found[number]
            self.targets[number] = [self.number_of(followed(ahead, single)) for single in self.singles]
        return self.targets[number]


def effects_of_length(machine, length):
    """All effects of the rows of a length."""
    effects = Effects(machine)
    lot = LotChain([0], lambda number: effects.with_command(number), length).lot(length)
    return tuple(sorted([effects.found[number] for number in lot]))


def row_for(machine, wanted):
    """The first of the shortest rows whose effect is any value, or None."""
    if not isinstance(wanted, tuple) or len(wanted) != machine.states:
        return None
    if first_not_below(wanted, machine.states) is not None:
        return None
    singles = command_effects(machine)
    return first_row(
        effect(machine, ()),
        lambda found: [followed(found, single) for single in singles],
        lambda found: found == wanted,
    )


def reached_in_order(machine, start):
    """All states to which a state is led, in the order of the first of the shortest rows that do it."""
    found = [start]
    seen = {start: True}
    at = 0
    while at < len(found):
        for state in machine.steps[found[at]]:
            if state not in seen:
                seen[state] = True
                found.append(state)
        at += 1
    return found


def reached(machine, start):
    """All states to which a state is led by some row."""
    return tuple(sorted(reached_in_order(machine, start)))


def reaching_row(machine, start, state):
    """The first of the shortest rows that lead one state to another."""
    row = first_row(
        start,
        lambda found: machine.steps[found],
        lambda found: found == state,
    )
    if row is None:
        raise Refused(0)
    return row
