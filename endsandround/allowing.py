"""Which reorderings three numbers allow."""

from math import gcd

from endsandround.reorderings import frame


def is_allowed(triple, reordering):
    """Whether a reordering leaves the ends alone, and moves all others by multiples of the step."""
    return is_frame_allowed(triple, frame(reordering))


def is_frame_allowed(triple, told):
    """Whether a reordering with a frame, which is told, is allowed by a triple, or by None."""
    if told is None:
        return True
    if triple is None:
        return False
    return told[0] >= triple[0] and told[1] >= triple[1] and told[2] % triple[2] == 0


def widest_of(frames):
    """The triple with the greatest numbers that allows the reorderings with these frames; None if all are idle."""
    told = [entry for entry in frames if entry is not None]
    if not told:
        return None
    step = 0
    for entry in told:
        step = gcd(step, entry[2])
    return min([entry[0] for entry in told]), min([entry[1] for entry in told]), step
