"""Triples left: which ones agree with all findings, and what to try next."""

from endsandround.allowing import is_frame_allowed, widest_of
from endsandround.common import divisors
from endsandround.errors import Refused
from endsandround.findings import exchange_framed, frames_told
from endsandround.reorderings import checked_reordering, frame


def _widest_left(harmless):
    triple = widest_of(harmless)
    if triple is None:
        raise Refused(0)
    return triple


def triples_left(told):
    """All triples that agree with all findings, ascending."""
    harmless, harmful = frames_told(told)
    return _left_by(_widest_left(harmless), harmful)


def _left_by(triple, harmful):
    # All triples within the widest one that do not allow what has these frames, ascending.
    first, last, step = triple
    if None in harmful:
        return ()
    steps = divisors(step)
    against = [[entry for entry in harmful if entry[2] % divisor == 0] for divisor in steps]
    found = []
    for before in range(first + 1):
        leasts = [_least_behind(before, entries) for entries in against]
        for after in range(last + 1):
            found.extend([(before, after, divisor) for divisor, least in zip(steps, leasts) if after >= least])
    return tuple(found)


def _least_behind(before, frames):
    # How many last places must be left alone, with `before` first ones, to allow nothing that has these frames.
    return max([entry[1] + 1 for entry in frames if entry[0] >= before], default=0)


def left_count(told):
    """How many triples agree with all findings."""
    return len(triples_left(told))


def pinned(told):
    """The only triple that agrees with all findings, or None."""
    left = triples_left(told)
    if len(left) != 1:
        return None
    return left[0]


def split(told, reordering):
    """How many of the triples left allow a reordering, and how many do not."""
    harmless, harmful = frames_told(told)
    places = checked_reordering(reordering)
    return _split_by(_left_by(_widest_left(harmless), harmful), frame(places))


def _split_by(left, told_frame):
    allowing = len([triple for triple in left if is_frame_allowed(triple, told_frame)])
    return allowing, len(left) - allowing


def next_reordering(told):
    """The exchange that splits the triples left best, or None if less than two are left."""
    harmless, harmful = frames_told(told)
    triple = _widest_left(harmless)
    left = _left_by(triple, harmful)
    if len(left) < 2:
        return None
    best = None
    most = -1
    for candidate in _left_by(triple, []):
        lesser = min(_split_by(left, candidate))
        if lesser > most:
            best = candidate
            most = lesser
    return exchange_framed(best)
