"""Which reorderings three numbers allow."""

from endsandround.reorderings import frame


def is_allowed(triple, reordering):
    """Whether a reordering leaves the ends alone, and moves all others by multiples of the step."""
    told = frame(reordering)
    if told is None:
        return True
    if triple is None:
        return False
    return told[0] >= triple[0] and told[1] >= triple[1] and told[2] % triple[2] == 0
