"""The three numbers of omissions: from which length on, and which, never matter."""

from endsandround.common import LotChain, least_holding
from endsandround.layers import behind, joined, settled_behind, settled_joined
from endsandround.reorderings import turns
from endsandround.slips import never_counts


def may_omit(machine, before, many, after):
    """Whether leaving out `many` entries behind the first `before` ones matters to no row."""
    least = joined(machine, after)
    for state in behind(machine, before):
        ends = LotChain([state], lambda found: machine.steps[found], many).lot(many)
        if any([least[end] != least[state] for end in ends]):
            return False
    return True


def omission_numbers(machine):
    """The three numbers (first, last, block) of the harmless omissions, or None."""
    u = settled_behind(machine)
    v = settled_joined(machine)
    if not never_counts(machine, u, v):
        return None
    first = least_holding(
        u,
        lambda before: never_counts(machine, before, v),
    )
    last = least_holding(
        v,
        lambda after: never_counts(machine, u, after),
    )
    return first, last, _block(machine, u, v)


def _block(machine, u, v):
    # All commands lead what is joined to what is joined, the same for all of them; and as the states behind stay the
    # same, so do the lots of them that are joined, which are only led round.
    least = joined(machine, v)
    states = behind(machine, u)
    lots = sorted({least[state] for state in states})
    led_to = {least[state]: least[machine.steps[state][0]] for state in states}
    return turns([lots.index(led_to[lot]) for lot in lots])
