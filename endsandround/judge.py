"""The judge: whether a reordering is harmless, and some harm if it is not."""

from itertools import permutations

from endsandround.allowing import is_allowed
from endsandround.builtharms import harm_by_exchange, harm_by_rings
from endsandround.court import numbers
from endsandround.cuts import harm_by_cuts, walked_harm
from endsandround.errors import Refused
from endsandround.exactly import is_exact_by
from endsandround.links import links_by
from endsandround.machines import are_parted, is_row_and_state
from endsandround.reorderings import checked_reordering, reordered


def is_harm(machine, reordering, value):
    """Whether any value is a pair (filling, state) that shows that a reordering matters."""
    places = checked_reordering(reordering)
    if not is_row_and_state(machine, len(places), value):
        return False
    filling, state = value
    return are_parted(machine, state, filling, reordered(filling, places))


def built_harm(machine, reordering):
    """Some harm of a reordering that the numbers do not allow."""
    places = checked_reordering(reordering)
    triple = numbers(machine)
    if is_allowed(triple, places):
        raise Refused(0)
    return _built(machine, triple, places)


def _built(machine, triple, places):
    if triple is None:
        return harm_by_rings(machine, places)
    return harm_by_exchange(machine, triple, places)


def harm(machine, reordering):
    """Some harm of a reordering, or None if it is harmless."""
    places = checked_reordering(reordering)
    return harm_by(machine, numbers(machine), places)


def harm_by(machine, triple, places):
    """Some harm of a reordering, or None if it is harmless, by the numbers, which are told."""
    if not is_allowed(triple, places):
        return _built(machine, triple, places)
    if is_exact_by(machine, triple, len(places)) or _is_within(links_by(machine, triple, len(places)), places):
        return None
    return walked_harm(machine, places)


def _is_within(linked, places):
    # Whether each place is led to one that it is linked with.
    return all([linked[at] == linked[place] for at, place in enumerate(places)])


def harmless_all(machine, places):
    """All harmless reorderings of so many places, ascending."""
    triple = numbers(machine)
    allowed = [reordering for reordering in permutations(range(places)) if is_allowed(triple, reordering)]
    if is_exact_by(machine, triple, places):
        return tuple(allowed)
    linked = links_by(machine, triple, places)
    return tuple([
        reordering
        for reordering in allowed
        if _is_within(linked, reordering) or harm_by_cuts(machine, reordering) is None
    ])
