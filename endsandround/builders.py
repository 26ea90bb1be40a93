"""Machines of two commands for three numbers."""

from endsandround.errors import Refused
from endsandround.machines import Machine
from endsandround.parts import counting_wheel, put_behind
from endsandround.triples import checked_triple

COMMANDS = 2
LIMIT = 200


def _first_steps(first):
    steps = [[state + 1] * COMMANDS for state in range(first - 1)]
    return steps + [[first, first + 1], [first] * COMMANDS, [first + 1] * COMMANDS]


def _last_steps(last):
    return [[0, min(state + 1, last)] for state in range(last + 1)]


def _wheel_steps(step):
    return counting_wheel(COMMANDS, [1], step, 2)


def first_memory(first):
    """The machine that keeps the command at the last of so many first places."""
    return Machine(COMMANDS, _first_steps(first))


def last_memory(last):
    """The machine that counts the commands 1 behind the last 0, up to so many."""
    return Machine(COMMANDS, _last_steps(last))


def wheel(step):
    """The machine that turns a bit over with each 1 at every step-th place."""
    return Machine(COMMANDS, _wheel_steps(step))


def built(triple):
    """Some machine that has three numbers."""
    first, last, step = checked_triple(triple)
    # In the order of the parts: how many states each has, if it is needed.
    first_states = first + 2 if first != 0 else 0
    last_states = last + 1 if last != 0 else 0
    wheel_states = 2 * step if step > 1 else 0
    states = max(1, first_states + last_states + wheel_states)
    if states > LIMIT:
        raise Refused(states)
    steps = []
    if first != 0:
        steps = put_behind(steps, _first_steps(first))
    if last != 0:
        steps = put_behind(steps, _last_steps(last))
    if step > 1:
        steps = put_behind(steps, _wheel_steps(step))
    return Machine(COMMANDS, steps or [[0] * COMMANDS])


def state_bound(triple):
    """How many states a machine with three numbers has at least, whatever its commands are."""
    first, last, step = checked_triple(triple)
    return max(1, first + 2 if first != 0 else 1, last + 1, 3 if step > 1 else 1)
