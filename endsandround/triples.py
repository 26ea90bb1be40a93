"""Triples (first, last, step), rows of numbers, and the bags of places that a triple makes."""

from endsandround.common import is_number, is_sequence
from endsandround.errors import InvalidRow, InvalidTriple


def _wrong_number(values):
    # The index of the first of three that does not fit, or None.
    for at, value in enumerate(values):
        if not is_number(value):
            return at
    if values[2] == 0:
        return 2
    return None


def is_triple(value):
    """Whether any value is a triple: three numbers, the third from 1 on."""
    return isinstance(value, tuple) and len(value) == 3 and _wrong_number(value) is None


def checked_triple(value):
    """Any value, a sequence, as a triple."""
    if not is_sequence(value) or len(value) != 3:
        raise InvalidTriple(3)
    wrong = _wrong_number(value)
    if wrong is not None:
        raise InvalidTriple(wrong)
    return tuple(value)


def number_row(value):
    """Any value, a sequence of numbers, as a row."""
    if not is_sequence(value):
        raise InvalidRow(0)
    for at, entry in enumerate(value):
        if not is_number(entry):
            raise InvalidRow(at)
    return tuple(value)


def bags_of(triple, length):
    """All bags of a triple, which is known to be one, that are not empty, ascending."""
    first, last, step = triple
    end = length - last
    return tuple(tuple(range(start, end, step)) for start in range(first, min(first + step, end)))


def bags(triple, length):
    """All bags of places of rows of a length that are not empty, ascending."""
    return bags_of(checked_triple(triple), length)
