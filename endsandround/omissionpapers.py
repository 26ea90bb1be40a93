"""Papers that show the three numbers of omissions."""

from endsandround.common import is_below, is_integer, is_tuple_of, prime_divisors
from endsandround.gaps import LIMIT
from endsandround.layers import settled_behind, settled_joined
from endsandround.omissioncourt import may_omit, omission_numbers
from endsandround.omissions import is_omission_harm, omission_harm
from endsandround.slips import is_slip, never_counts, slip

LONGEST = 10000


def _stretch_out(before, many, after):
    # The omission that leaves out so many entries between others.
    return (0,) * before + (1,) * many + (0,) * after


def _slip_contexts(machine, triple):
    # Where an entry would never count if the first or the last number of the triple could be less.
    first, last, _ = triple
    contexts = []
    if first != 0:
        contexts.append((first - 1, settled_joined(machine)))
    if last != 0:
        contexts.append((settled_behind(machine), last - 1))
    return contexts


def _lesser_omissions(machine, block):
    # Omissions that would be harmless if the block could be less.
    u = settled_behind(machine)
    v = settled_joined(machine)
    return [_stretch_out(u, block // prime, v) for prime in prime_divisors(block)]


def omission_paper(machine):
    """Some paper that shows the three numbers of omissions, or that there are none."""
    triple = omission_numbers(machine)
    if triple is None:
        return "none", slip(machine, settled_behind(machine), settled_joined(machine))
    slips = tuple(slip(machine, before, after) for before, after in _slip_contexts(machine, triple))
    harms = tuple(omission_harm(machine, omission) for omission in _lesser_omissions(machine, triple[2]))
    return "numbers", triple, slips + harms


def is_omission_paper(machine, value):
    """Whether any value is a paper of the machine."""
    if is_tuple_of(2, value) and isinstance(value[0], str) and value[0] == "none":
        return is_slip(machine, settled_behind(machine), settled_joined(machine), value[1])
    if is_tuple_of(3, value) and isinstance(value[0], str) and value[0] == "numbers":
        return _is_omission_triple(machine, value[1]) and _are_shown(machine, value[1], value[2])
    return False


def _is_omission_triple(machine, value):
    # Whether any value is a triple of numbers that are great enough.
    if not is_tuple_of(3, value):
        return False
    first, last, block = value
    if not is_below(first, LONGEST + 1) or not is_below(last, LONGEST + 1):
        return False
    if not is_integer(block) or not 1 <= block <= LIMIT:
        return False
    u = settled_behind(machine)
    v = settled_joined(machine)
    return never_counts(machine, first, v) and never_counts(machine, u, last) and may_omit(machine, u, block, v)


def _are_shown(machine, triple, harms):
    # Whether any value is a tuple of slips and harms that show that none of the numbers can be less.
    contexts = _slip_contexts(machine, triple)
    lesser = _lesser_omissions(machine, triple[2])
    if not is_tuple_of(len(contexts) + len(lesser), harms):
        return False
    slips = harms[:len(contexts)]
    if not all([is_slip(machine, before, after, told) for (before, after), told in zip(contexts, slips)]):
        return False
    others = harms[len(contexts):]
    return all([is_omission_harm(machine, omission, told) for omission, told in zip(lesser, others)])
