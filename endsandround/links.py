"""Links: which places of rows of a length may be exchanged, and how many reorderings are harmless."""

from math import factorial

from endsandround.corners import chains_by_before, corners_by, is_let
from endsandround.court import numbers
from endsandround.errors import Refused
from endsandround.exactly import is_exact_by


def links_by(machine, triple, length):
    """For each place the least place that it is linked with, by the numbers, which are told."""
    least = list(range(length))
    if triple is None:
        return tuple(least)
    first, last, step = triple
    layers = chains_by_before(machine, length)
    # What the numbers do not let is never linked.
    for distance in range(step, length - first - last, step):
        found = corners_by(machine, layers, distance)
        for place in range(first, length - last - distance):
            if is_let(found, place, length - 1 - distance - place):
                least[place + distance] = min(least[place + distance], place)
    return tuple(least)


def links(machine, length):
    """For each place of rows of a length the least place that it is linked with."""
    return links_by(machine, numbers(machine), length)


def _product_of_factorials(sizes):
    ways = 1
    for size in sizes:
        ways = ways * factorial(size)
    return ways


def sure_count(machine, length):
    """How many reorderings move each place to one that it is linked with."""
    linked = links(machine, length)
    return _product_of_factorials([linked.count(place) for place in range(length)])


def harmless_count(machine, length):
    """How many reorderings are harmless at an exact length."""
    triple = numbers(machine)
    if not is_exact_by(machine, triple, length):
        raise Refused(0)
    if triple is None:
        return 1
    first, last, step = triple
    middle = max(0, length - first - last)
    # Each place of the middle can be taken by what stands a multiple of the step away.
    return _product_of_factorials([len(range(start, middle, step)) for start in range(min(step, middle))])
