"""Logs of commands, some of which are done in another order than they were entered."""

from endsandround.common import is_below
from endsandround.errors import Refused
from endsandround.judge import harm
from endsandround.machines import led
from endsandround.reorderings import back, reordered, told_reordering


class Log:
    """A log of commands that are done from a state on; its deeds can be taken back."""

    def __init__(self, machine, start):
        if not is_below(start, machine.states):
            raise Refused(0)
        self.machine = machine
        self.start = start
        self._entered = []
        self._row = []
        # For each deed, the last one behind, what takes it back: a place and a reordering; None for a command entered.
        self._deeds = []

    def __len__(self):
        return len(self._deeds)

    def entered(self):
        """The commands in the order in which they were entered."""
        return tuple(self._entered)

    def row(self):
        """The commands as they stand now."""
        return tuple(self._row)

    def state(self):
        """The state behind the row."""
        return led(self.machine, self.start, self._row)

    def way(self):
        """All states on the way, the start first."""
        states = [self.start]
        for command in self._row:
            states.append(self.machine.steps[states[-1]][command])
        return tuple(states)

    def drifted(self):
        """Whether the state is another one than if all commands had been done as they were entered."""
        return led(self.machine, self.start, self._entered) != self.state()

    def enter(self, command):
        """Puts a command behind all others."""
        if not is_below(command, self.machine.commands):
            raise Refused(0)
        self._entered.append(command)
        self._row.append(command)
        self._deeds.append(None)

    def reorder(self, at, reordering):
        """Reorders the stretch of the row that begins at a place and is as long as the reordering."""
        places = self._checked_places(at, reordering)
        self._reorder_stretch(at, places)
        self._deeds.append((at, back(places)))

    def never_matters(self, at, reordering):
        """Whether a reordering of a stretch of the row never matters, whatever commands the row has."""
        return harm(self.machine, self._checked_places(at, reordering)) is None

    def _checked_places(self, at, reordering):
        if not is_below(at, len(self._row)):
            raise Refused(0)
        places = told_reordering(reordering)
        if places is None or not 1 <= len(places) <= len(self._row) - at:
            raise Refused(1)
        return places

    def _reorder_stretch(self, at, places):
        end = at + len(places)
        self._row[at:end] = list(reordered(self._row[at:end], places))

    def undo(self):
        """Takes back the last deed; whether there was one."""
        if not self._deeds:
            return False
        deed = self._deeds.pop()
        if deed is None:
            self._entered.pop()
            self._row.pop()
        else:
            self._reorder_stretch(deed[0], deed[1])
        return True

    def within(self, work):
        """What some work with the log returns; all deeds done in it are taken back, also if it fails."""
        entered = list(self._entered)
        row = list(self._row)
        deeds = list(self._deeds)
        try:
            return work(self)
        finally:
            self._entered = entered
            self._row = row
            self._deeds = deeds
