"""Sparse harms: all entries but two, or one, are the base."""

from endsandround.judge import is_harm
from endsandround.machines import effect
from endsandround.reorderings import checked_reordering, reordered
from endsandround.reversible import clash, free_step, reversible_effects, shifts


def is_sparse_harm(machine, base, reordering, value):
    """Whether any value is a harm with at most two entries that are not the base."""
    reversible_effects(machine)
    if not is_harm(machine, reordering, value):
        return False
    filling = value[0]
    return len(filling) - filling.count(base) <= 2


def sparse_harm(machine, base, reordering):
    """Some sparse harm of a reordering, or None if it is harmless."""
    step = free_step(machine, base)
    places = checked_reordering(reordering)
    for at, place in enumerate(places):
        if (place - at) % step != 0:
            return _with_state(machine, places, _filling(len(places), base, [(at, _moved(machine, base, at, place))]))
    found = clash(machine, base)
    if found is None or places == tuple(range(len(places))):
        return None
    r, a, c = found
    at, other = _changing_sides(places, step, r)
    return _with_state(machine, places, _filling(len(places), base, [(at, a), (other, c)]))


def _moved(machine, base, at, place):
    # The first command whose shifts by two places that are no multiple of the free step apart are unlike.
    singles = reversible_effects(machine)
    ways = list(zip(shifts(singles, base, at), shifts(singles, base, place)))
    return [command for command, (one, other) in enumerate(ways) if one != other][0]


def _changing_sides(places, step, r):
    # The first entry that moves, which goes to the right, and one ahead of which it stands only before, r and some
    # steps further on. There is one: the places so far behind that to which it goes are too few for all such.
    at = [place for place, target in enumerate(places) if target != place][0]
    others = [other for other in range(at + 1, len(places)) if (other - at - r) % step == 0]
    return at, [other for other in others if places[other] < places[at]][0]


def _filling(many, base, entries):
    row = [base] * many
    for at, command in entries:
        row[at] = command
    return tuple(row)


def _with_state(machine, places, filling):
    # The filling, and the first state that it and the reordered one lead to different states.
    ends = list(zip(effect(machine, filling), effect(machine, reordered(filling, places))))
    return filling, [state for state, (one, other) in enumerate(ends) if one != other][0]
