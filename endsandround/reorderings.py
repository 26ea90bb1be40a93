"""Reorderings of places: what is at place i goes to place p[i]."""

from math import gcd, lcm

from endsandround.common import is_below, is_sequence
from endsandround.errors import InvalidReordering, Refused


def is_reordering(value):
    """Whether any value is a reordering."""
    return isinstance(value, tuple) and _wrong_place(value) is None


def checked_reordering(value):
    """Any value, a sequence, as a reordering."""
    if not is_sequence(value):
        raise InvalidReordering(0)
    wrong = _wrong_place(value)
    if wrong is not None:
        raise InvalidReordering(wrong)
    return tuple(value)


def told_reordering(value):
    """Any value as a reordering, or None if it is no sequence that is one."""
    if not is_sequence(value) or _wrong_place(value) is not None:
        return None
    return tuple(value)


def _wrong_place(places):
    taken = [False] * len(places)
    for at, place in enumerate(places):
        if not is_below(place, len(places)) or taken[place]:
            return at
        taken[place] = True
    return None


def idle(many):
    """The reordering that leaves so many places as they are."""
    return tuple(range(many))


def exchange(many, i, j):
    """The reordering of so many places that exchanges two of them only."""
    places = list(range(many))
    places[i] = j
    places[j] = i
    return tuple(places)


def reordered(row, reordering):
    """A sequence, reordered."""
    places = checked_reordering(reordering)
    if len(row) != len(places):
        raise Refused(len(places))
    moved = list(row)
    for place, entry in zip(places, row):
        moved[place] = entry
    return tuple(moved)


def after(one, other):
    """The reordering that does `one` first, then `other`."""
    first = checked_reordering(one)
    second = checked_reordering(other)
    if len(first) != len(second):
        raise Refused(0)
    return _done_after(first, second)


def _done_after(first, second):
    return tuple(second[place] for place in first)


def back(reordering):
    """The reordering that undoes one."""
    places = checked_reordering(reordering)
    return reordered(idle(len(places)), places)


def shifted(reordering, before, behind):
    """A reordering with so many places, which it leaves alone, put before and behind."""
    places = checked_reordering(reordering)
    moved = tuple(before + place for place in places)
    start = before + len(places)
    return tuple(range(before)) + moved + tuple(range(start, start + behind))


def rings(reordering):
    """The rings of two or more places, each place followed by that to which what is there goes."""
    places = checked_reordering(reordering)
    seen = [False] * len(places)
    found = []
    for start in range(len(places)):
        ring = []
        place = start
        while not seen[place]:
            seen[place] = True
            ring.append(place)
            place = places[place]
        if len(ring) > 1:
            found.append(tuple(ring))
    return tuple(found)


def turns(reordering):
    """How often a reordering must be done, at least once, to leave all places as they are."""
    often = 1
    for ring in rings(reordering):
        often = lcm(often, len(ring))
    return often


def _moved_places(places):
    return [at for at, place in enumerate(places) if place != at]


def frame(reordering):
    """How many first and last places are left alone, and the divisor of all distances, or None."""
    places = checked_reordering(reordering)
    moved = _moved_places(places)
    if not moved:
        return None
    step = 0
    for at in moved:
        step = gcd(step, places[at] - at)
    return moved[0], len(places) - 1 - moved[-1], step


def three_ring(reordering):
    """The reordering of a longer row, made of this one, that moves just three places."""
    places = checked_reordering(reordering)
    moved = _moved_places(places)
    if not moved:
        raise Refused(0)
    far = moved[-1] - moved[0]
    near_start = shifted(places, 0, far)
    near_end = shifted(places, far, 0)
    done = _done_after(near_start, near_end)
    return _done_after(_done_after(done, back(near_start)), back(near_end))
