"""Omissions: which entries of a row are left out, and whether this matters."""

from endsandround.common import first_not_below, is_sequence
from endsandround.errors import InvalidReordering, Refused
from endsandround.machines import are_parted, is_row_and_state
from endsandround.reorderings import idle


def checked_omission(value):
    """Any value, a sequence, as an omission."""
    if not is_sequence(value):
        raise InvalidReordering(0)
    wrong = first_not_below(value, 2)
    if wrong is not None:
        raise InvalidReordering(wrong)
    return tuple(value)


def omitted(row, omission):
    """What an omission leaves of a sequence."""
    told = checked_omission(omission)
    if len(row) != len(told):
        raise Refused(len(told))
    return tuple(entry for entry, out in zip(row, told) if out == 0)


def then_omitted(one, other):
    """The omission that does `one`, and then, with what is left, `other`."""
    first = checked_omission(one)
    second = checked_omission(other)
    left = omitted(idle(len(first)), first)
    if len(second) != len(left):
        raise Refused(len(left))
    both = list(first)
    for place, out in zip(left, second):
        both[place] = out
    return tuple(both)


class OmissionWalk:
    """To which pairs of states rows lead, and what is left of them, place by place.

    A pair (s, t) is the number s * states + t. `lots` are the lots of pairs that were met, `passed` tells which of them
    stands ahead of each place, and at the end.
    """

    def __init__(self, machine, told):
        self.machine = machine
        self.lots = []
        self.numbers = {}
        self.passed = [self.number_of([state * machine.states + state for state in range(machine.states)])]
        behind = {}
        for out in told:
            # Like lots come again and again in long rows.
            step = (self.passed[-1], out)
            if step not in behind:
                behind[step] = self.number_of([t for pair in self.lots[step[0]] for t in self.led(pair, out)])
            self.passed.append(behind[step])

    def number_of(self, pairs):
        """The number of the lot of some pairs."""
        lot = tuple(sorted(set(pairs)))
        if lot not in self.numbers:
            self.numbers[lot] = len(self.lots)
            self.lots.append(lot)
        return self.numbers[lot]

    def led(self, pair, out):
        """Where each command leads a pair if it is left out, or if it is not."""
        states = self.machine.states
        s, t = divmod(pair, states)
        targets = self.machine.steps[s]
        if out == 1:
            return [target * states + t for target in targets]
        return [target * states + other for target, other in zip(targets, self.machine.steps[t])]

    def harm_to(self, pair, told):
        """A row, and a state that it and what is left of it lead to a pair."""
        row = []
        for place in range(len(told) - 1, -1, -1):
            pair, command = self.source_of(pair, self.passed[place], told[place])
            row.append(command)
        return tuple(row[::-1]), pair // self.machine.states

    def source_of(self, pair, number, out):
        """A pair of a lot, and a command that leads it to a pair."""
        for source in self.lots[number]:
            targets = self.led(source, out)
            if pair in targets:
                return source, targets.index(pair)
        return None


def omission_harm(machine, omission):
    """A pair (filling, state) that shows that an omission matters, or None."""
    told = checked_omission(omission)
    walk = OmissionWalk(machine, told)
    for pair in walk.lots[walk.passed[-1]]:
        if pair // machine.states != pair % machine.states:
            return walk.harm_to(pair, told)
    return None


def is_omission_harm(machine, omission, value):
    """Whether any value is a pair that shows that an omission matters."""
    told = checked_omission(omission)
    if not is_row_and_state(machine, len(told), value):
        return False
    filling, state = value
    return are_parted(machine, state, filling, omitted(filling, told))


def is_allowed_omission(triple, omission):
    """Whether an omission is allowed by a triple, or by None."""
    told = checked_omission(omission)
    out = [place for place, number in enumerate(told) if number == 1]
    if not out:
        return True
    if triple is None:
        return False
    first, last, block = triple
    return out[0] >= first and out[-1] < len(told) - last and len(out) % block == 0
