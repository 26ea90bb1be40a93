"""Cuts: which entries a reordering leads across a place, and harms found by walking from cut to cut."""

from endsandround.common import is_below
from endsandround.errors import Refused
from endsandround.reorderings import back, checked_reordering

LIMIT = 1000


def _open_at(places, cut):
    return tuple(at for at, place in enumerate(places) if (at < cut) != (place < cut))


def open_entries(reordering, cut):
    """The entries that stand on one side of a cut in the row, and on the other one in the reordered row."""
    places = checked_reordering(reordering)
    if not is_below(cut, len(places) + 1):
        raise Refused(0)
    return _open_at(places, cut)


def width(reordering):
    """The greatest number of entries that are open at a cut."""
    places = checked_reordering(reordering)
    return max([len(_open_at(places, cut)) for cut in range(len(places) + 1)])


def walked_harm(machine, reordering):
    """Some harm of a reordering, or None if it is harmless, for every machine."""
    places = checked_reordering(reordering)
    wide = width(places)
    fillings = 1
    for _ in range(wide):
        fillings = fillings * machine.commands
    if fillings > LIMIT:
        raise Refused(wide)
    return harm_by_cuts(machine, places)


def harm_by_cuts(machine, places):
    """Some harm of a reordering, known to be one, or None, however many entries are open."""
    walk = CutWalk(machine, places)
    for one, ends in enumerate(walk.layers[-1][()]):
        for other in _states_in(ends):
            if one != other:
                return walk.harm_behind(one, other)
    return None


def _states_in(ends):
    # The states of a lot, a number with a one in its binary digits for each of them.
    found = []
    while ends > 0:
        lowest = ends & -ends
        found.append(lowest.bit_length() - 1)
        ends = ends ^ lowest
    return found


class CutWalk:
    """To which states the rows and the reordered rows lead, cut by cut.

    `layers[cut]` tells, for all commands that the open entries can have, for each state s the lot of all t such
    that some state is led to s by the entries of a row ahead of the cut, and to t by those of the reordered row.
    """

    def __init__(self, machine, places):
        self.machine = machine
        self.sources = back(places)
        self.opens = [_open_at(places, cut) for cut in range(len(places) + 1)]
        self.led_lots = {}
        self.layers = [{(): [1 << state for state in range(machine.states)]}]
        for cut in range(len(places)):
            self.layers.append(self.layer_behind(cut))

    def ways_on(self, cut, told):
        """All triples (commands of the entries open at the next cut, command of the row, of the reordered row)."""
        ways = [dict(zip(self.opens[cut], told))]
        for entry in (cut, self.sources[cut]):
            if entry not in ways[0]:
                ways = [{**way, entry: command} for way in ways for command in range(self.machine.commands)]
        opens = self.opens[cut + 1]
        return [(tuple([way[at] for at in opens]), way[cut], way[self.sources[cut]]) for way in ways]

    def layer_behind(self, cut):
        """What comes at the next cut of what there is at a cut."""
        layer = {}
        for told, lots in self.layers[cut].items():
            for onward, a, c in self.ways_on(cut, told):
                found = layer.setdefault(onward, [0] * self.machine.states)
                for state, ends in enumerate(lots):
                    target = self.machine.steps[state][a]
                    found[target] = found[target] | self.lot_led(ends, c)
        return layer

    def lot_led(self, ends, c):
        """The lot of the states to which a command leads those of a lot."""
        if (ends, c) not in self.led_lots:
            found = 0
            for state in _states_in(ends):
                found = found | (1 << self.machine.steps[state][c])
            self.led_lots[(ends, c)] = found
        return self.led_lots[(ends, c)]

    def harm_behind(self, one, other):
        """A harm that leads to two states behind the last cut."""
        row = []
        told = ()
        for cut in range(len(self.sources) - 1, -1, -1):
            told, command, one, other = self.step_to(cut, told, one, other)
            row.append(command)
        return tuple(row[::-1]), one

    def step_to(self, cut, wanted, one, other):
        """From where one comes to two states at the next cut: what is told at a cut, the row's command, two states."""
        for told, lots in self.layers[cut].items():
            for onward, a, c in self.ways_on(cut, told):
                if onward == wanted:
                    for state, ends in enumerate(lots):
                        targets = [t for t in _states_in(ends) if self.machine.steps[t][c] == other]
                        if self.machine.steps[state][a] == one and targets:
                            return told, a, state, targets[0]
        return None
