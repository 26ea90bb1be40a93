"""Omissions: which entries of a row are left out, and whether this matters."""

from endsandround.common import first_not_below, is_sequence
from endsandround.errors import InvalidReordering, Refused
from endsandround.layers import behind, settled_behind, settled_joined
from endsandround.machines import are_parted, is_row_and_state
from endsandround.omissioncourt import omission_numbers
from endsandround.reorderings import idle
from endsandround.slips import never_counts, slip


def checked_omission(value):
    """Any value, a sequence, as an omission."""
    if not is_sequence(value):
        raise InvalidReordering(0)
    wrong = first_not_below(value, 2)
    if wrong is not None:
        raise InvalidReordering(wrong)
    return tuple(value)


def omitted(row, omission):
    """What an omission leaves of a sequence."""
    told = checked_omission(omission)
    if len(row) != len(told):
        raise Refused(len(told))
    return tuple(entry for entry, out in zip(row, told) if out == 0)


def then_omitted(one, other):
    """The omission that does `one`, and then, with what is left, `other`."""
    first = checked_omission(one)
    second = checked_omission(other)
    left = omitted(idle(len(first)), first)
    if len(second) != len(left):
        raise Refused(len(left))
    both = list(first)
    for place, out in zip(left, second):
        both[place] = out
    return tuple(both)


def omission_harm(machine, omission):
    """A pair (filling, state) that shows that an omission matters, or None."""
    told = checked_omission(omission)
    out = [place for place, number in enumerate(told) if number == 1]
    if not out:
        return None
    place = _counting_place(machine, len(told), out)
    if place is not None:
        return _harm_by_slip(machine, told, place)
    # So leaving out a single entry would never matter but by how many are left: there are numbers of omissions.
    if len(out) % omission_numbers(machine)[2] != 0:
        return _harm_by_number(machine, told, len(out))
    if len(told) - len(out) >= settled_behind(machine) + settled_joined(machine):
        return None
    return _walked_harm(machine, told)


def _counting_place(machine, length, out):
    # Some place left out at which the command counts, or None. What holds with some before and after holds with more,
    # and no more than what settles matters: so if any place counts, one of these does.
    u = settled_behind(machine)
    v = settled_joined(machine)
    for place in [out[0], out[-1]] + [place for place in out if place < u and length - 1 - place < v]:
        if not never_counts(machine, place, length - 1 - place):
            return place
    return None


def _harm_by_slip(machine, told, place):
    # Two rows that differ only there have unlike effects, but the same is left of both; so it is unlike one of them.
    filling, command, state = slip(machine, place, len(told) - 1 - place)
    if are_parted(machine, state, filling, omitted(filling, told)):
        return filling, state
    return filling[:place] + (command,) + filling[place + 1:], state


def _harm_by_number(machine, told, many):
    # Whatever the commands are, some state is led to another one by so many fewer.
    row = (0,) * len(told)
    for state in behind(machine, settled_behind(machine)):
        if are_parted(machine, state, row, row[many:]):
            return row, state
    return None


def _walked_harm(machine, told):
    # Where no command that is left out counts, it may as well be 0.
    walk = OmissionWalk(machine, told)
    for pair in walk.lots[walk.passed[-1]]:
        if pair // machine.states != pair % machine.states:
            return walk.harm_to(pair, told)
    return None


class OmissionWalk:
    """To which pairs of states rows lead, and what is left of them, place by place, with 0 for all that is left out.

    A pair (s, t) is the number s * states + t. `lots` are the lots of pairs that were met, `passed` tells which of them
    stands ahead of each place, and at the end.
    """

    def __init__(self, machine, told):
        self.machine = machine
        self.lots = []
        self.numbers = {}
        self.passed = [self.number_of([state * machine.states + state for state in range(machine.states)])]
        targets = {}
        for out in told:
            # Like lots come again and again in long rows.
            step = (self.passed[-1], out)
            if step not in targets:
                targets[step] = self.number_of([t for pair in self.lots[step[0]] for t in self.led(pair, out)])
            self.passed.append(targets[step])

    def number_of(self, pairs):
        """The number of the lot of some pairs."""
        lot = tuple(sorted(set(pairs)))
        if lot not in self.numbers:
            self.numbers[lot] = len(self.lots)
            self.lots.append(lot)
        return self.numbers[lot]

    def led(self, pair, out):
        """Where a pair is led: by each command, or, if this is left out, by the command 0."""
        states = self.machine.states
        s, t = divmod(pair, states)
        targets = self.machine.steps[s]
        if out == 1:
            return [targets[0] * states + t]
        return [target * states + other for target, other in zip(targets, self.machine.steps[t])]

    def harm_to(self, pair, told):
        """A row, and a state that it and what is left of it lead to a pair."""
        row = []
        for place in range(len(told) - 1, -1, -1):
            pair, command = self.source_of(pair, self.passed[place], told[place])
            row.append(command)
        return tuple(row[::-1]), pair // self.machine.states

    def source_of(self, pair, number, out):
        """A pair of a lot, and a command that leads it to a pair."""
        for source in self.lots[number]:
            targets = self.led(source, out)
            if pair in targets:
                return source, targets.index(pair)
        return None


def is_omission_harm(machine, omission, value):
    """Whether any value is a pair that shows that an omission matters."""
    told = checked_omission(omission)
    if not is_row_and_state(machine, len(told), value):
        return False
    filling, state = value
    return are_parted(machine, state, filling, omitted(filling, told))


def is_allowed_omission(triple, omission):
    """Whether an omission is allowed by a triple, or by None."""
    told = checked_omission(omission)
    out = [place for place, number in enumerate(told) if number == 1]
    if not out:
        return True
    if triple is None:
        return False
    first, last, block = triple
    return out[0] >= first and out[-1] < len(told) - last and len(out) % block == 0
