"""Counts: how often each command stands at every so-manieth place, and the effect that this tells."""

from endsandround.common import is_number, is_sequence
from endsandround.errors import InvalidRow, Refused
from endsandround.machines import checked_row, effect, followed
from endsandround.reversible import clash, free_step, power, reversible_effects, shifts


def _counted_step(machine, base):
    # The free step of a reversible machine that has numbers.
    if clash(machine, base) is not None:
        raise Refused(0)
    return free_step(machine, base)


def row_counts(machine, base, row):
    """For each remainder how often each command stands at the places that leave it."""
    step = _counted_step(machine, base)
    entries = checked_row(machine.commands, row)
    parts = [entries[remainder::step] for remainder in range(step)]
    return tuple(tuple(part.count(command) for command in range(machine.commands)) for part in parts)


def effect_of_counts(machine, base, counts):
    """The effect of all rows with such counts."""
    step = _counted_step(machine, base)
    told = _checked_counts(machine.commands, step, counts)
    singles = reversible_effects(machine)
    found = effect(machine, ())
    for remainder, entry in enumerate(told):
        for moved, many in zip(shifts(singles, base, remainder), entry):
            found = followed(found, power(moved, many))
    return followed(found, power(singles[base], sum([sum(part) for part in told])))


def _checked_counts(commands, step, counts):
    if not is_sequence(counts) or len(counts) != step:
        raise InvalidRow(step)
    for remainder, entry in enumerate(counts):
        if not is_sequence(entry) or len(entry) != commands or not all([is_number(many) for many in entry]):
            raise InvalidRow(remainder)
    length = sum([sum(part) for part in counts])
    for remainder, entry in enumerate(counts):
        # So many of the places below the length leave the remainder.
        if sum(entry) != (length + step - 1 - remainder) // step:
            raise InvalidRow(remainder)
    return counts
