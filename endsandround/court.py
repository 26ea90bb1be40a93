"""The court: which entries may be exchanged, the three numbers, and papers that show them."""

from endsandround.common import (
    divisors,
    is_integer,
    is_number,
    is_tuple_of,
    least_holding,
    prime_divisors,
)
from endsandround.gaps import LIMIT, gap_chains, rounds, rounds_of
from endsandround.layers import behind, joined, keeping_row, row_behind, settled_behind, settled_joined
from endsandround.machines import are_parted, is_row_and_state
from endsandround.reorderings import exchange, reordered


def _crossed(machine, a, c, pair):
    # The states to which c leads the first state of a pair, and a the second one.
    s, t = divmod(pair, machine.states)
    return machine.steps[s][c], machine.steps[t][a]


def parted(machine, chains, gap, after):
    """Some (a, c, lots of pairs, pair) for which the exchange matters at this gap, or None."""
    least = joined(machine, after)
    for a, c, chain in chains:
        for pair in chain.lot(gap):
            one, other = _crossed(machine, a, c, pair)
            if least[one] != least[other]:
                return a, c, chain, pair
    return None


def may_exchange(machine, before, step, after):
    """Whether exchanging the entries at `before` and `before + step` matters to no row."""
    chains = gap_chains(machine, before, step - 1)
    return parted(machine, chains, step - 1, after) is None


def _pair_traced(chain, pair, gap):
    # A pair of the lot for the gap 0, and a row of `gap` commands that leads it to a pair of the lot for the gap.
    row = []
    for left in range(gap - 1, -1, -1):
        pair, command = _way_to(chain, chain.lot(left), pair)
        row.append(command)
    return pair, tuple(row[::-1])


def _way_to(chain, lot, pair):
    for source in lot:
        if pair in chain.targets[source]:
            return source, chain.targets[source].index(pair)
    return None


def exchange_harm(machine, before, step, after):
    """A pair (filling, state) that shows that the exchange matters, or None."""
    chains = gap_chains(machine, before, step - 1)
    shown = parted(machine, chains, step - 1, after)
    if shown is None:
        return None
    a, c, chain, pair = shown
    entry, between = _pair_traced(chain, pair, step - 1)
    one, other = divmod(entry, machine.states)
    sources = [s for s in behind(machine, before) if machine.steps[s][a] == one and machine.steps[s][c] == other]
    state, lead = row_behind(machine, sources[0], before)
    one_end, other_end = _crossed(machine, a, c, pair)
    return lead + (a,) + between + (c,) + keeping_row(machine, one_end, other_end, after), state


def is_exchange_harm(machine, before, step, after, value):
    """Whether any value is a pair that shows that the exchange matters."""
    if not is_row_and_state(machine, before + step + 1 + after, value):
        return False
    filling, state = value
    return are_parted(machine, state, filling, reordered(filling, exchange(len(filling), before, before + step)))


def are_exchange_harms(machine, exchanges, value):
    """Whether any value is a tuple of pairs, one for each (before, step, after), that show that these matter."""
    if not is_tuple_of(len(exchanges), value):
        return False
    return all([
        is_exchange_harm(machine, before, step, after, harm)
        for (before, step, after), harm in zip(exchanges, value)
    ])


def numbers(machine):
    """The three numbers (first, last, step) of the harmless reorderings, or None."""
    u = settled_behind(machine)
    v = settled_joined(machine)
    chains = gap_chains(machine, u, LIMIT)
    period = rounds_of(chains)[1]
    steps = [d for d in divisors(period) if parted(machine, chains, d - 1, v) is None]
    if not steps:
        return None
    step = steps[0]
    first = least_holding(
        u,
        lambda before: may_exchange(machine, before, step, v),
    )
    last = least_holding(
        v,
        lambda after: parted(machine, chains, step - 1, after) is None,
    )
    return first, last, step


def _contexts_below(machine, triple):
    # The exchanges (before, step, after) that would be harmless if some number of the triple could be less.
    first, last, step = triple
    u = settled_behind(machine)
    v = settled_joined(machine)
    contexts = []
    if first != 0:
        contexts.append((first - 1, step, v))
    if last != 0:
        contexts.append((u, step, last - 1))
    for prime in prime_divisors(step):
        contexts.append((u, step // prime, v))
    return contexts


def court_paper(machine):
    """Some paper that shows the three numbers, or that there are none."""
    triple = numbers(machine)
    if triple is None:
        period = rounds(machine)[1]
        harm = exchange_harm(machine, settled_behind(machine), period, settled_joined(machine))
        return "none", period, harm
    contexts = _contexts_below(machine, triple)
    harms = tuple(exchange_harm(machine, before, step, after) for before, step, after in contexts)
    return "numbers", triple, harms


def is_court_paper(machine, value):
    """Whether any value is a paper of the machine."""
    period = rounds(machine)[1]
    if not is_tuple_of(3, value):
        return False
    kind, told, shown = value
    if not isinstance(kind, str):
        return False
    if kind == "numbers":
        return _is_shown(machine, told, shown)
    if kind == "none":
        return _is_none_shown(machine, period, told, shown)
    return False


def _is_none_shown(machine, period, distance, harm):
    if not is_integer(distance) or not 1 <= distance <= LIMIT or distance % period != 0:
        return False
    return is_exchange_harm(machine, settled_behind(machine), distance, settled_joined(machine), harm)


def _is_shown(machine, triple, harms):
    if not is_tuple_of(3, triple) or not all([is_number(number) for number in triple]):
        return False
    first, last, step = triple
    if not 1 <= step <= LIMIT:
        return False
    if not may_exchange(machine, first, step, settled_joined(machine)):
        return False
    if not may_exchange(machine, settled_behind(machine), step, last):
        return False
    return are_exchange_harms(machine, _contexts_below(machine, triple), harms)
