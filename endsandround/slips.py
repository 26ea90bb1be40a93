"""Slips: rows in which it matters that another command stands at some place."""

from endsandround.common import is_below, is_tuple_of
from endsandround.layers import behind, joined, keeping_row, row_behind
from endsandround.machines import are_parted, is_row_and_state


def _unlike_commands(machine, before, after):
    # Some (state, command, other command), the state being one behind `before`, such that the commands lead it to
    # states that are not joined by `after`; or None.
    least = joined(machine, after)
    for state in behind(machine, before):
        kinds = [least[target] for target in machine.steps[state]]
        for command, kind in enumerate(kinds):
            if kind != kinds[0]:
                return state, 0, command
    return None


def never_counts(machine, before, after):
    """Whether no row changes its effect with the command at the place `before`."""
    return _unlike_commands(machine, before, after) is None


def slip(machine, before, after):
    """Some triple (filling, command, state) that shows that the entry counts, or None if it never does."""
    shown = _unlike_commands(machine, before, after)
    if shown is None:
        return None
    state, entry, command = shown
    start, lead = row_behind(machine, state, before)
    targets = machine.steps[state]
    return lead + (entry,) + keeping_row(machine, targets[entry], targets[command], after), command, start


def is_slip(machine, before, after, value):
    """Whether any value is a triple that shows that the entry at the place `before` counts."""
    if not is_tuple_of(3, value):
        return False
    filling, command, state = value
    if not is_below(command, machine.commands) or not is_row_and_state(machine, before + 1 + after, (filling, state)):
        return False
    return are_parted(machine, state, filling, filling[:before] + (command,) + filling[before + 1:])
