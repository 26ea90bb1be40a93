"""How many effects the rows of each length have, and how long they tell all rows apart that are not alike."""

from endsandround.common import LotChain, times
from endsandround.court import numbers
from endsandround.exactly import inexact_span
from endsandround.machines import Effects
from endsandround.rowkinds import kind_count


def effect_counts(machine, longest):
    """For each length up to the longest how many effects the rows of this length have."""
    effects = Effects(machine)
    chain = LotChain([0], lambda number: effects.with_command(number), longest)
    return tuple(len(chain.lot(length)) for length in range(longest + 1))


def free_length(machine):
    """The greatest length at which the machine is free; None for one command."""
    if machine.commands == 1:
        return None
    triple = numbers(machine)
    low, high = inexact_span(machine, triple) or (0, -1)
    effects = Effects(machine)
    lot = [0]
    length = 0
    while True:
        lot = sorted({target for number in lot for target in effects.with_command(number)})
        if low <= length + 1 <= high:
            is_free = _merged_by(machine, triple, length + 1) is None
        else:
            # At an exact length each kind has one effect, so it is free if all of these are unlike.
            is_free = len(lot) == _kinds(triple, machine.commands, length + 1)
        if not is_free:
            return length
        length += 1


def _kinds(triple, commands, length):
    if triple is None:
        return times(commands, length)
    return kind_count(triple, commands, length)


def merged_rows(machine, length):
    """Some pair of rows of a length that have the same effect, though they are not alike; None if it is free there."""
    return _merged_by(machine, numbers(machine), length)


def _merged_by(machine, triple, length):
    # Without numbers all entries count as first ones.
    walk = KindWalk(machine, triple or (length, 0, 1), length)
    for place in range(length):
        pair = walk.step_over(place)
        if pair is not None:
            rest = (0,) * (length - place - 1)
            return pair[0] + rest, pair[1] + rest
    return None


class KindWalk:
    """The beginnings of rows of a length, by their effects: one kind for each effect, as long as there is just one.

    A kind is a pair: the entries outside of the middle, and how often each command stands in each bag.
    """

    def __init__(self, machine, triple, length):
        self.commands = machine.commands
        self.triple = triple
        self.length = length
        self.effects = Effects(machine)
        self.kinds = {0: ((), (0,) * (self.commands * min(triple[2], length)))}
        # For each place and each effect behind it the effect ahead of it, and the command there, on some way.
        self.ways = []

    def step_over(self, place):
        """Goes on behind a place; some two beginnings of unlike kinds but with one effect, or None."""
        found = {}
        ways = {}
        for number, kind in self.kinds.items():
            for command, target in enumerate(self.effects.with_command(number)):
                onward = self.kind_with(kind, place, command)
                if target not in found:
                    found[target] = onward
                    ways[target] = (number, command)
                elif found[target] != onward:
                    ahead, entry = ways[target]
                    return self.row_to(ahead) + (entry,), self.row_to(number) + (command,)
        self.kinds = found
        self.ways.append(ways)
        return None

    def kind_with(self, kind, place, command):
        """The kind of a beginning of some kind with a command behind it, at a place."""
        first, last, step = self.triple
        told, counts = kind
        if place < first or place >= self.length - last:
            return told + (command,), counts
        at = (place - first) % step * self.commands + command
        return told, counts[:at] + (counts[at] + 1,) + counts[at + 1:]

    def row_to(self, number):
        """Some beginning with the effect with a number."""
        row = []
        for ways in self.ways[::-1]:
            number, command = ways[number]
            row.append(command)
        return tuple(row[::-1])
