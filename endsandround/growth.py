"""How the number of kinds of rows grows with the length, and which triples tell given numbers of kinds."""

from math import factorial

from endsandround.common import times
from endsandround.rowkinds import kind_count
from endsandround.triples import checked_triple, number_row

# The numbers of commands for which counts are told.
LEAST_COMMANDS = 2
MOST_COMMANDS = 5


def growth(triple, commands):
    """After how many times of taking differences those of the numbers of kinds are all equal, and to what."""
    first, last, step = checked_triple(triple)
    degree = step * (commands - 1)
    difference = times(commands, first + last) * factorial(degree) // times(factorial(commands - 1), step)
    return degree, difference


def told_by(counts):
    """All triples (commands, ends, step) for which these are the numbers of kinds of rows of the lengths 0, 1, .."""
    told = number_row(counts)
    found = []
    for commands in range(LEAST_COMMANDS, MOST_COMMANDS + 1):
        both = _longest_of_own_kinds(told, commands)
        if both + 1 < len(told):
            for ends in range(both):
                if _are_kinds(told, commands, ends, both - ends):
                    found.append((commands, ends, both - ends))
    return tuple(found)


def _longest_of_own_kinds(counts, commands):
    # How many lengths from 1 on follow one another at which each row is of a kind of its own: ends + step.
    length = 0
    while length + 1 < len(counts) and counts[length + 1] == times(commands, length + 1):
        length += 1
    return length


def _are_kinds(counts, commands, ends, step):
    for length, count in enumerate(counts):
        if kind_count((ends, 0, step), commands, length) != count:
            return False
    return True
