"""Free machines: they tell apart all rows, up to some length, that are not alike for their numbers."""

from endsandround.common import times
from endsandround.machines import Machine
from endsandround.parts import counting_wheel, put_behind
from endsandround.triples import checked_triple


def free_machine(triple, commands, length):
    """Some machine with three numbers, exact at all lengths, that is free at all lengths up to one."""
    first, last, step = checked_triple(triple)
    middle = max(0, length - first - last)
    # One more than the places of the greatest bag, so that counts of rows that are not alike stay apart; and never
    # a single one, as the wheels would then tell nothing.
    sizes = max(2, (middle + step - 1) // step + 1)
    steps = []
    if first != 0:
        steps = put_behind(steps, _first_words(commands, first))
    if last != 0:
        steps = put_behind(steps, _last_words(commands, last))
    # Of the command 0 there are as many as the others leave.
    for command in range(1, commands):
        steps = put_behind(steps, counting_wheel(commands, [command], step, sizes))
    return Machine(commands, steps)


def _first_words(commands, first):
    # A state for each row of at most so many commands; the longest stay for good.
    inner = sum([times(commands, length) for length in range(first)])
    steps = [[state * commands + 1 + command for command in range(commands)] for state in range(inner)]
    return steps + [[inner + word] * commands for word in range(times(commands, first))]


def _last_words(commands, last):
    # A state for each row of so many commands: the last ones.
    words = times(commands, last)
    return [[(word * commands + command) % words for command in range(commands)] for word in range(words)]
