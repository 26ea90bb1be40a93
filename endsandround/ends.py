"""Machines that read rows from the other end, and machines that do commands later."""

from endsandround.common import times
from endsandround.machines import Machine, command_effects, effect, followed


def mirrored(machine):
    """The machine whose states are all effects of rows, ascending; a command leads one to that of itself and it."""
    singles = command_effects(machine)
    targets = {}
    waiting = [effect(machine, ())]
    while waiting:
        state = waiting.pop()
        if state not in targets:
            targets[state] = [followed(single, state) for single in singles]
            waiting.extend(targets[state])
    states = sorted(targets)
    numbers = {state: number for number, state in enumerate(states)}
    return Machine(machine.commands, [[numbers[target] for target in targets[state]] for state in states])


def delayed(machine, many):
    """The machine that does each command when so many others have come behind it."""
    words = times(machine.commands, many)
    steps = []
    # A state is a pair: the number of the word of commands that wait, read in the base of how many commands there
    # are, and a state of the machine.
    for word in range(words):
        ways = [divmod(word * machine.commands + command, words) for command in range(machine.commands)]
        for entry in machine.steps:
            steps.append([rest * machine.states + entry[done] for done, rest in ways])
    return Machine(machine.commands, steps)
