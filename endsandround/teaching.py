"""Teaching: findings with which just one triple agrees."""

from endsandround.common import is_tuple_of, prime_divisors
from endsandround.findings import agrees, exchange_framed, widest
from endsandround.reorderings import is_reordering
from endsandround.triples import checked_triple


def _next_below(triple):
    # The triples that come of it by one less at an end, or by a prime divisor of the step.
    first, last, step = triple
    found = []
    if first != 0:
        found.append((first - 1, last, step))
    if last != 0:
        found.append((first, last - 1, step))
    for prime in prime_divisors(step):
        found.append((first, last, step // prime))
    return found


def teaching(triple):
    """Some findings, as few as possible, that teach a triple, ascending."""
    told = checked_triple(triple)
    found = [(exchange_framed(other), False) for other in _next_below(told)]
    return tuple(sorted([(exchange_framed(told), True), *found]))


def teaching_count(triple):
    """How many findings are needed to teach a triple."""
    return 1 + len(_next_below(checked_triple(triple)))


def is_teaching(triple, value):
    """Whether any value is a tuple of findings that teach a triple."""
    told = checked_triple(triple)
    if not isinstance(value, tuple) or not all([_is_finding(entry) for entry in value]):
        return False
    if widest(value) != told or not agrees(told, value):
        return False
    # Whatever else agrees lies within the widest triple, and so within one of these if it is another one.
    return not any([agrees(other, value) for other in _next_below(told)])


def _is_finding(value):
    return is_tuple_of(2, value) and is_reordering(value[0]) and isinstance(value[1], bool)
