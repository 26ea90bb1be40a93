"""Machines as texts."""

from endsandround.common import first_not_below
from endsandround.errors import InvalidText
from endsandround.machines import Machine

WORD = "machine"


def machine_text(machine):
    """The text of a machine: a line with its sizes, then a line for each state."""
    lines = [f"{WORD} {machine.commands} {machine.states}"]
    for entry in machine.steps:
        lines.append(" ".join([str(state) for state in entry]))
    return "\n".join(lines)


def read_machine(text):
    """The machine with a text."""
    if not isinstance(text, str):
        raise InvalidText(0)
    lines = text.split("\n")
    sizes = _read_sizes(lines[0])
    if sizes is None:
        raise InvalidText(0)
    commands, states = sizes
    steps = []
    for at in range(1, states + 1):
        if at == len(lines):
            raise InvalidText(at)
        entry = _read_numbers(lines[at].split(" "))
        if len(entry) != commands or first_not_below(entry, states) is not None:
            raise InvalidText(at)
        steps.append(entry)
    if len(lines) > states + 1:
        raise InvalidText(states + 1)
    return Machine(commands, steps)


def _read_sizes(line):
    # The numbers of commands and states, or None.
    words = line.split(" ")
    sizes = _read_numbers(words[1:])
    if words[0] != WORD or len(sizes) != 2 or None in sizes or 0 in sizes:
        return None
    return sizes


def _read_numbers(words):
    return [read_number(word) for word in words]


def read_number(word):
    """The number that a word of at most four digits tells without leading zeros, or None."""
    if len(word) == 0 or len(word) > 4 or (word[0] == "0" and word != "0"):
        return None
    # Other alphabets have digits, too, which `isdigit` would take.
    if not all([letter in "0123456789" for letter in word]):
        return None
    return int(word)
