"""Claims: reorderings that are told to be harmless for a machine that nobody has seen."""

from endsandround.allowing import widest_of
from endsandround.common import is_integer, is_sequence
from endsandround.court import numbers
from endsandround.errors import InvalidMachine, InvalidReordering, Refused
from endsandround.judge import harm_by
from endsandround.reorderings import frame, told_reordering


class Claims:
    """So many commands, and reorderings that are told to be harmless."""

    def __init__(self, commands, reorderings):
        if not is_integer(commands) or commands < 2:
            raise InvalidMachine(0)
        if not is_sequence(reorderings):
            raise InvalidReordering(0)
        told = [told_reordering(entry) for entry in reorderings]
        if None in told:
            raise InvalidReordering(told.index(None))
        self.commands = commands
        self.reorderings = tuple(told)

    def __eq__(self, other):
        return (
            isinstance(other, Claims)
            and self.commands == other.commands
            and self.reorderings == other.reorderings
        )


def broken(claims, machine):
    """The index of the first reordering that is not harmless, and some harm of it; None if there is none."""
    if machine.commands != claims.commands:
        raise Refused(0)
    if not claims.reorderings:
        return None
    triple = numbers(machine)
    for index, places in enumerate(claims.reorderings):
        found = harm_by(machine, triple, places)
        if found is not None:
            return index, found
    return None


def shown_numbers(claims):
    """The greatest numbers of a machine that keeps the claims, or None if these are all idle."""
    return widest_of([frame(places) for places in claims.reorderings])
