"""Gaps: which pairs of states two commands lead to, when like rows follow both."""

from math import lcm

from endsandround.common import LotChain
from endsandround.errors import Refused
from endsandround.layers import behind, settled_behind

LIMIT = 5000


def _gap_nodes(machine, states, a, c):
    # The pairs for the gap 0; the pair (s, t) is the number s * states + t.
    steps = machine.steps
    return tuple(sorted({steps[state][a] * machine.states + steps[state][c] for state in states}))


def _gap_chain(machine, nodes, longest, targets):
    # The lots of pairs for the gaps from 0 on.
    many = machine.states
    steps = machine.steps

    def follow(pair):
        return [s * many + t for s, t in zip(steps[pair // many], steps[pair % many])]

    return LotChain(nodes, follow, longest, targets)


def gap_pairs(machine, before, a, c, gap):
    """The pairs to which `a`, and `c`, and then the same row of `gap` commands lead a state behind `before`."""
    chain = _gap_chain(machine, _gap_nodes(machine, behind(machine, before), a, c), gap, {})
    return tuple(divmod(pair, machine.states) for pair in chain.lot(gap))


def gap_chains(machine, before, longest):
    """A triple (a, c, lots of pairs from the states behind `before`) for all commands a < c.

    The pair (s, t) is the number s * states + t.
    """
    states = behind(machine, before)
    targets = {}
    by_nodes = {}
    chains = []
    for a in range(machine.commands):
        for c in range(a + 1, machine.commands):
            nodes = _gap_nodes(machine, states, a, c)
            if nodes not in by_nodes:
                by_nodes[nodes] = _gap_chain(machine, nodes, longest, targets)
            chains.append((a, c, by_nodes[nodes]))
    return chains


def rounds_of(chains):
    """The pair (start, period) of some lots that are told up to the limit."""
    start = 0
    period = 1
    for a, c, chain in chains:
        if chain.loop is None:
            raise Refused(LIMIT)
        start = max(start, chain.loop)
        period = lcm(period, len(chain.lots) - chain.loop)
    if start + period > LIMIT:
        raise Refused(LIMIT)
    return start, period


def rounds(machine):
    """From which gap on, and by which period, the lots of pairs come again."""
    return rounds_of(gap_chains(machine, settled_behind(machine), LIMIT))
