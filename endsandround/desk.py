"""Desks: logs that are led by commands in words."""

from endsandround.court import numbers
from endsandround.errors import InvalidCommand
from endsandround.logs import Log
from endsandround.machines import Machine
from endsandround.machinetexts import read_number

# How many numbers stand behind each word; for those in the second table, at the least.
SIZES = {"numbers": 0, "row": 0, "entered": 0, "state": 0, "drifted": 0, "undo": 0, "enter": 1}
LEAST_SIZES = {"machine": 3, "reorder": 2, "matters": 2}


class Desk:
    """Does commands, with the log of the last machine that was told."""

    def __init__(self):
        self.log = None

    def say(self, command):
        """Does a command; the text that answers it."""
        word, told = _read(command)
        if word == "machine":
            self.log = Log(_told_machine(told), 0)
            return "ok"
        if self.log is None:
            raise InvalidCommand()
        if word == "enter":
            self.log.enter(told[0])
            return "ok"
        if word == "reorder":
            self.log.reorder(told[0], told[1:])
            return "ok"
        if word == "matters":
            return "never" if self.log.never_matters(told[0], told[1:]) else "maybe"
        if word == "undo":
            return "ok" if self.log.undo() else "nothing"
        return _shown(self.log, word)


def _read(command):
    # The first word of a command, and the numbers behind it.
    if not isinstance(command, str):
        raise InvalidCommand()
    words = command.split(" ")
    told = [read_number(word) for word in words[1:]]
    if None in told or not _has_form(words[0], len(told)):
        raise InvalidCommand()
    return words[0], told


def _has_form(word, many):
    if word in SIZES:
        return many == SIZES[word]
    return word in LEAST_SIZES and many >= LEAST_SIZES[word]


def _told_machine(told):
    commands, states, *targets = told
    if commands == 0 or len(targets) != commands * states:
        raise InvalidCommand()
    return Machine(commands, [targets[state * commands:(state + 1) * commands] for state in range(states)])


def _shown(log, word):
    if word == "numbers":
        triple = numbers(log.machine)
        return "none" if triple is None else _joined(triple)
    if word == "state":
        return str(log.state())
    if word == "drifted":
        return "yes" if log.drifted() else "no"
    commands = log.row() if word == "row" else log.entered()
    return _joined(commands) if commands else "empty"


def _joined(values):
    return " ".join([str(value) for value in values])
