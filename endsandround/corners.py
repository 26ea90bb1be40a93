"""Corners: the least contexts in which an exchange of two entries, so far apart, never matters."""

from endsandround.common import is_below, is_tuple_of
from endsandround.court import are_exchange_harms, exchange_harm, may_exchange, parted
from endsandround.gaps import gap_chains
from endsandround.layers import settled_behind, settled_joined


def chains_by_before(machine, longest):
    """For each number before, up to the settled one, the lots of pairs for the gaps up to the longest."""
    return [gap_chains(machine, before, longest) for before in range(settled_behind(machine) + 1)]


def corners_by(machine, layers, distance):
    """All corners for a distance, by the lots of pairs for each number before."""
    found = []
    after = settled_joined(machine) + 1
    for before, chains in enumerate(layers):
        least = after
        # With more before no more after is needed, so the search goes on from the last corner.
        while least > 0 and parted(machine, chains, distance - 1, least - 1) is None:
            least -= 1
        if least < after:
            found.append((before, least))
        after = least
    return tuple(found)


def corners(machine, distance):
    """All corners for a distance, ascending."""
    return corners_by(machine, chains_by_before(machine, distance - 1), distance)


def is_let(found, before, after):
    """Whether a context lets the distance for which all corners are told."""
    return any([x <= before and y <= after for x, y in found])


def _left_out_by(machine, found):
    # Each context lies one below a corner before, and one below the corner ahead of that after; the borders
    # count as corners, as nothing lies beyond them.
    befores = [before for before, _ in found] + [settled_behind(machine) + 1]
    afters = [settled_joined(machine) + 1] + [after for _, after in found]
    return tuple((before - 1, after - 1) for before, after in zip(befores, afters) if before > 0 and after > 0)


def left_out(machine, distance):
    """The contexts that the corners for a distance leave out."""
    return _left_out_by(machine, corners(machine, distance))


def corner_paper(machine, distance):
    """Some paper that shows what the corners for a distance are."""
    found = corners(machine, distance)
    contexts = _left_out_by(machine, found)
    return found, tuple(exchange_harm(machine, before, distance, after) for before, after in contexts)


def is_corner_paper(machine, distance, value):
    """Whether any value is a paper that shows what the corners for a distance are."""
    if not is_tuple_of(2, value):
        return False
    found, harms = value
    if not _are_stairs(machine, found):
        return False
    if not all([may_exchange(machine, before, distance, after) for before, after in found]):
        return False
    exchanges = [(before, distance, after) for before, after in _left_out_by(machine, found)]
    return are_exchange_harms(machine, exchanges, harms)


def _are_stairs(machine, value):
    # Whether any value is a tuple of contexts within the borders, whose first numbers ascend as the second descend.
    if not isinstance(value, tuple):
        return False
    u = settled_behind(machine)
    v = settled_joined(machine)
    for context in value:
        if not is_tuple_of(2, context) or not is_below(context[0], u + 1) or not is_below(context[1], v + 1):
            return False
    return all([one[0] < other[0] and one[1] > other[1] for one, other in zip(value, value[1:])])
