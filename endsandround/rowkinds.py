"""Kinds of rows: how many there are for a triple, and how large they are."""

from math import comb, factorial

from endsandround.common import times
from endsandround.triples import checked_triple


def choices(values, many):
    """In how many ways so many values, each of some number of ones, can be told ascending, like ones side by side."""
    return comb(many + values - 1, values - 1)


def kind_count(triple, commands, length):
    """How many kinds of rows of a length there are."""
    first, last, step = checked_triple(triple)
    middle = length - first - last
    if middle <= 0:
        return times(commands, length)
    size, longer = divmod(middle, step)
    in_bags = times(choices(commands, size + 1), longer) * times(choices(commands, size), step - longer)
    return times(commands, first + last) * in_bags


def most_alike(triple, commands, length):
    """The greatest number of rows of one kind."""
    first, last, step = checked_triple(triple)
    size, longer = divmod(max(0, length - first - last), step)
    return times(_most_orders(commands, size + 1), longer) * times(_most_orders(commands, size), step - longer)


def _most_orders(commands, size):
    # In how many orders so many entries can stand, each command equally often, or once more.
    often, more = divmod(size, commands)
    ways = factorial(size)
    for command in range(commands):
        ways = ways // factorial(often + 1 if command < more else often)
    return ways
