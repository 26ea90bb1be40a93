"""Findings: which three numbers agree with what was found to be harmless or harmful."""

from math import gcd

from endsandround.allowing import is_allowed, is_frame_allowed, widest_of
from endsandround.common import first_not_below, is_sequence
from endsandround.errors import InvalidReordering
from endsandround.reorderings import exchange, frame, told_reordering
from endsandround.triples import checked_triple


def _finding(value):
    # Any value as a finding, or None.
    if not is_sequence(value) or len(value) != 2 or not isinstance(value[1], bool):
        return None
    places = told_reordering(value[0])
    if places is None:
        return None
    return places, value[1]


def checked_findings(value):
    """Any value, a sequence of findings, as a tuple of pairs."""
    if not is_sequence(value):
        raise InvalidReordering(0)
    found = []
    for at, entry in enumerate(value):
        finding = _finding(entry)
        if finding is None:
            raise InvalidReordering(at)
        found.append(finding)
    return tuple(found)


def agrees(triple, told):
    """Whether a triple, or None, agrees with all findings."""
    chosen = None if triple is None else checked_triple(triple)
    return all([is_allowed(chosen, places) == harmless for places, harmless in checked_findings(told)])


def frames_told(told):
    """A pair: the frames of all reorderings told harmless, and of all that are told harmful."""
    findings = checked_findings(told)
    harmless = [frame(places) for places, is_harmless in findings if is_harmless]
    harmful = [frame(places) for places, is_harmless in findings if not is_harmless]
    return harmless, harmful


def widest(told):
    """The triple with the greatest numbers that allows all that is told harmless; None if that is idle."""
    return widest_of(frames_told(told)[0])


def _nothing_agrees(harmless, harmful):
    # If anything agrees with what has these frames, the widest triple does, or None if there is none.
    triple = widest_of(harmless)
    return any([is_frame_allowed(triple, entry) for entry in harmful])


def clash(told):
    """The indexes of some findings with which nothing agrees, but something if any is left out; None if it does."""
    framed = [(frame(places), is_harmless) for places, is_harmless in checked_findings(told)]
    harmless = {at: entry for at, (entry, is_harmless) in enumerate(framed) if is_harmless and entry is not None}
    triple = widest_of(list(harmless.values()))
    for at, (entry, is_harmless) in enumerate(framed):
        if not is_harmless and is_frame_allowed(triple, entry):
            return tuple(sorted([at] + _allowing_indexes(harmless, entry)))
    return None


def _allowing_indexes(harmless, harmful):
    # The indexes of some that are told harmless, none of which can be left out, such that their widest triple allows
    # the one that is told harmful; all frames are told.
    if harmful is None:
        return []
    kept = _enough(harmless)
    for at in list(kept):
        fewer = [other for other in kept if other != at]
        if is_frame_allowed(widest_of([harmless[other] for other in fewer]), harmful):
            kept = fewer
    return kept


def _enough(harmless):
    # The indexes of a few with the same widest triple: one for each end, and those that make the step less.
    first, last, _ = widest_of(list(harmless.values()))
    ends = [[at for at, entry in harmless.items() if entry[0] == first][0]]
    ends.append([at for at, entry in harmless.items() if entry[1] == last][0])
    step = 0
    steps = []
    for at, entry in harmless.items():
        if gcd(step, entry[2]) != step:
            step = gcd(step, entry[2])
            steps.append(at)
    return sorted(set(ends + steps))


def is_clash(told, value):
    """Whether any value is a tuple of the indexes of such findings."""
    findings = checked_findings(told)
    if not isinstance(value, tuple) or first_not_below(value, len(findings)) is not None:
        return False
    if not all([one < other for one, other in zip(value, value[1:])]):
        return False
    framed = [(frame(findings[at][0]), findings[at][1]) for at in value]
    if not _clashing(framed):
        return False
    for at in range(len(framed)):
        if _clashing(framed[:at] + framed[at + 1:]):
            return False
    return True


def _clashing(framed):
    harmful = [entry for entry, is_harmless in framed if not is_harmless]
    return _nothing_agrees([entry for entry, is_harmless in framed if is_harmless], harmful)


def exchange_framed(triple):
    """The reordering with a frame that exchanges two places only, in a row that is no longer than it must be."""
    first, last, step = triple
    return exchange(first + step + 1 + last, first, first + step)
