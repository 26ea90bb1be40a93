"""At which lengths just those reorderings are harmless that the three numbers let."""

from endsandround.common import is_below, is_tuple_of
from endsandround.corners import corners
from endsandround.court import exchange_harm, is_exchange_harm, numbers


def inexact_span(machine, triple):
    """The lengths at which the numbers, which are told, are not exact, as a pair (low, high), or None."""
    if triple is None:
        return None
    first, last, step = triple
    found = corners(machine, step)
    if len(found) == 1:
        return None
    enough = max([step + other[0] + one[1] for one, other in zip(found, found[1:])])
    return first + last + step + 1, enough - 1


def is_exact_by(machine, triple, length):
    """Whether the numbers, which are told, are exact at a length."""
    span = inexact_span(machine, triple)
    return span is None or not span[0] <= length <= span[1]


def is_exact(machine, length):
    """Whether just those reorderings of so many places are harmless that the numbers let."""
    return is_exact_by(machine, numbers(machine), length)


def inexact_lengths(machine):
    """The lengths at which the numbers are not exact, as a pair (low, high), or None."""
    return inexact_span(machine, numbers(machine))


def exact_from(machine):
    """The least length from which on the numbers are exact at all lengths."""
    span = inexact_lengths(machine)
    if span is None:
        return 0
    return span[1] + 1


def inexact_harm(machine, length):
    """A triple (place, filling, state) that shows that the numbers are not exact at a length, or None."""
    triple = numbers(machine)
    if is_exact_by(machine, triple, length):
        return None
    first, last, step = triple
    for place in range(first, length - step - last):
        shown = exchange_harm(machine, place, step, length - 1 - step - place)
        if shown is not None:
            return (place, *shown)
    return None


def is_inexact_harm(machine, length, value):
    """Whether any value is a triple that shows that the numbers are not exact at a length."""
    triple = numbers(machine)
    if triple is None or not is_tuple_of(3, value):
        return False
    first, last, step = triple
    place, filling, state = value
    if not is_below(place, length - step - last) or place < first:
        return False
    return is_exchange_harm(machine, place, step, length - 1 - step - place, (filling, state))
