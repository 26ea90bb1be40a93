"""Reversible machines: each command leads different states to different states, and so can be undone."""

from endsandround.common import divisors
from endsandround.errors import NotReversible
from endsandround.machines import Machine, command_effects, followed
from endsandround.reorderings import back, is_reordering, rings, turns


def is_reversible(machine):
    """Whether each command leads different states to different states."""
    return all([is_reordering(single) for single in command_effects(machine)])


def reversible_effects(machine):
    """The effects of the rows of a single command of a reversible machine, command by command."""
    singles = command_effects(machine)
    for command, single in enumerate(singles):
        if not is_reordering(single):
            raise NotReversible(command)
    return singles


def undone(machine):
    """The machine in which each command leads each state to the one from which it comes."""
    undoings = [back(single) for single in reversible_effects(machine)]
    return Machine(machine.commands, [[undoing[state] for undoing in undoings] for state in range(machine.states)])


def order_of(machine, command):
    """How often a command must be done, at least once, to lead each state to itself."""
    return turns(reversible_effects(machine)[command])


def power(single, n):
    """The effect of what has an effect that can be undone, done n times, or undone so often if n is below 0."""
    ends = list(range(len(single)))
    for ring in rings(single):
        for at, state in enumerate(ring):
            ends[state] = ring[(at + n) % len(ring)]
    return tuple(ends)


def repeated(machine, command, n):
    """The effect of a command done n times, or undone so often if n is below 0."""
    return power(reversible_effects(machine)[command], n)


def shifts(singles, base, i):
    """The shifts by i of all commands, which have these effects, command by command."""
    ahead = power(singles[base], i)
    behind = power(singles[base], -i - 1)
    return [followed(followed(ahead, single), behind) for single in singles]


def shift(machine, base, command, i):
    """The effect of the base, i times, then the command, then the base undone i + 1 times."""
    return shifts(reversible_effects(machine), base, i)[command]


def _go_together(one, other):
    return followed(one, other) == followed(other, one)


def _goes_with_all(singles, turned):
    return all([_go_together(turned, single) for single in singles])


def free_step(machine, base):
    """How often the base must be done, at least once, to exchange with each command."""
    singles = reversible_effects(machine)
    steps = divisors(turns(singles[base]))
    return [step for step in steps if _goes_with_all(singles, power(singles[base], step))][0]


def clash(machine, base):
    """The first triple (r, a, c) such that the shifts of a by 0 and of c by r do not exchange, or None."""
    step = free_step(machine, base)
    singles = reversible_effects(machine)
    unmoved = shifts(singles, base, 0)
    for r in range(step):
        moved = shifts(singles, base, r)
        for a in range(machine.commands):
            for c in range(machine.commands):
                if not _go_together(unmoved[a], moved[c]):
                    return r, a, c
    return None


def reversible_numbers(machine, base):
    """The three numbers of a reversible machine, or None."""
    if clash(machine, base) is not None:
        return None
    return 0, 0, free_step(machine, base)
