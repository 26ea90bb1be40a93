"""The errors of the package; `at` tells what does not fit, as each function says."""


class EndsError(ValueError):
    """What all errors of the package have in common."""


class InvalidMachine(EndsError):
    """This is no machine."""

    def __init__(self, at):
        self.at = at


class InvalidRow(EndsError):
    """This is no row of commands."""

    def __init__(self, at):
        self.at = at


class InvalidReordering(EndsError):
    """This is no reordering."""

    def __init__(self, at):
        self.at = at


class InvalidQuestion(EndsError):
    """This is no question."""

    def __init__(self, at):
        self.at = at


class InvalidTriple(EndsError):
    """This is no triple."""

    def __init__(self, at):
        self.at = at


class InvalidMove(EndsError):
    """This is no move."""

    def __init__(self, at):
        self.at = at


class InvalidText(EndsError):
    """This is not the text of a machine."""

    def __init__(self, at):
        self.at = at


class NotReversible(EndsError):
    """A command leads different states to one."""

    def __init__(self, at):
        self.at = at


class Refused(EndsError):
    """There is no such thing, or it is beyond a limit."""

    def __init__(self, at):
        self.at = at


class InvalidCommand(EndsError):
    """This is no command for a desk."""
