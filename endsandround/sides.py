"""Machines side by side, and machines that take turns."""

from math import lcm

from endsandround.errors import Refused
from endsandround.machines import Machine, command_effects, followed


def side_by_side(one, other):
    """The machine that does each command in both machines; its states are pairs (s, t), with s * n + t as numbers."""
    if one.commands != other.commands:
        raise Refused(0)
    many = other.states
    steps = [
        [s * many + t for s, t in zip(entry, other_entry)]
        for entry in one.steps
        for other_entry in other.steps
    ]
    return Machine(one.commands, steps)


def combined(one, other):
    """The three numbers of machines side by side that have these; either may be None."""
    if one is None or other is None:
        return None
    return max(one[0], other[0]), max(one[1], other[1]), lcm(one[2], other[2])


def taking_turns(one, other):
    """The machine with the commands of both, each of which leads the state of its own machine alone."""
    many = other.states
    steps = []
    for s, entry in enumerate(one.steps):
        for t, other_entry in enumerate(other.steps):
            steps.append([target * many + t for target in entry] + [s * many + target for target in other_entry])
    return Machine(one.commands + other.commands, steps)


def go_together(machine):
    """Whether each two commands have the same effect in either order."""
    singles = command_effects(machine)
    for at, one in enumerate(singles):
        if not all([followed(one, other) == followed(other, one) for other in singles[:at]]):
            return False
    return True
