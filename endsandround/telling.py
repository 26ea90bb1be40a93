"""Telling machines: all that a triple allows is harmless for them, but they tell rows apart that are not alike."""

from endsandround.alike import checked_rows, unlikeness_of
from endsandround.common import first_not_below, is_below, is_tuple_of
from endsandround.errors import Refused
from endsandround.gaplabels import exchange_never_matters
from endsandround.machines import Machine, are_parted
from endsandround.parts import counting_wheel


def telling_machine(triple, one, other):
    """Some machine for which all that a triple allows is harmless, and a state that two rows lead to unlike states."""
    told, row, other_row = checked_rows(triple, one, other)
    shown = unlikeness_of(told, row, other_row)
    if shown is None:
        raise Refused(0)
    commands = 1 + max(row + other_row)
    if shown[0] == "length":
        return _wheel(commands, list(range(commands)), 1, len(row) - len(other_row)), 0
    if shown[0] == "bag":
        return _bag_teller(commands, told, (row, other_row), shown)
    place = shown[1]
    if place < told[0]:
        return _first_memory(commands, place, row[place]), 0
    # Behind the last place at which they differ, both rows are the same: so just one of them ends with this word.
    last_place = max([at for at, entry in enumerate(row) if entry != other_row[at]])
    return _end_finder(commands, row[last_place:]), 0


def _bag_teller(commands, triple, rows, shown):
    # A wheel that comes to its place 0 with each entry of the bag.
    _, place, entry = shown
    first, last, step = triple
    one, other = [row[place:len(row) - last:step].count(entry) for row in rows]
    machine = _wheel(commands, [entry], step, one - other)
    return machine, -place % step * (machine.states // step)


def _least_not_dividing(number):
    divisor = 2
    while number % divisor == 0:
        divisor += 1
    return divisor


def _wheel(commands, counted, step, unlike):
    # Counts how often some commands stand at every step-th place, up to the least number that does not divide the
    # number by which two rows are unlike: so it tells these apart, with few states.
    return Machine(commands, counting_wheel(commands, counted, step, _least_not_dividing(unlike)))


def _first_memory(commands, place, entry):
    # Keeps for good whether an entry stands at a place.
    steps = [[state + 1] * commands for state in range(place)]
    steps.append([place + 1 if command == entry else place + 2 for command in range(commands)])
    return Machine(commands, steps + [[place + 1] * commands, [place + 2] * commands])


def _end_finder(commands, word):
    # Tells how much of the beginning of a word stands at the end of a row.
    steps = [[0] * commands]
    shorter = 0
    for length, command in enumerate(word):
        fallback = steps[shorter][command]
        steps[length][command] = length + 1
        shorter = fallback
        steps.append(list(steps[shorter]))
    return Machine(commands, steps)


def is_telling(triple, one, other, value):
    """Whether any value is a pair of such a machine and such a state."""
    told, row, other_row = checked_rows(triple, one, other)
    if not is_tuple_of(2, value) or not isinstance(value[0], Machine):
        return False
    machine, state = value
    if not is_below(state, machine.states) or first_not_below(row + other_row, machine.commands) is not None:
        return False
    if not are_parted(machine, state, row, other_row):
        return False
    first, last, step = told
    return exchange_never_matters(machine, first, step, last)
