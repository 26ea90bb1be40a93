"""Harms that are built, without trying, for reorderings that the three numbers do not allow.

Take a row in which some exchange is known to matter, and a way to do this exchange by steps, each of which
either is known not to matter, or reorders a window of the row. As the row matters at the end, one of the
windows does, too; so its entries are the filling of a harm.
"""

from endsandround.court import exchange_harm
from endsandround.layers import settled_behind, settled_joined
from endsandround.machines import are_parted, led
from endsandround.reorderings import back, exchange, frame, reordered


def harm_by_exchange(machine, triple, places):
    """A harm of a reordering that the numbers do not allow."""
    window, before, distance, after = harmful_exchange(machine, triple, places)
    row, state = exchange_harm(machine, before, distance, after)
    end = window + len(places)
    # The window leads the entry at `before` or at `before + distance` to a place from which the exchange with
    # the other one is harmless: reordering the window, doing that exchange, and reordering it back exchanges both.
    for known in (row, reordered(row, exchange(len(row), before, before + distance))):
        start = led(machine, state, known[:window])
        filling = known[window:end]
        if are_parted(machine, start, filling, reordered(filling, places)):
            return filling, start
    return None


def harmful_exchange(machine, triple, places):
    """A tuple (window, before, distance, after) for a reordering that the numbers do not allow.

    It tells where the window begins, and an exchange, which matters, of one place in the window and one outside
    of it; the exchange of that one and the place to which the window leads what is at the other never matters.
    """
    first, last, step = triple
    alone, alone_behind, _ = frame(places)
    for at, place in enumerate(places):
        if (place - at) % step != 0:
            window = settled_behind(machine)
            return _with_place_behind(machine, step, places, window, at)
    if alone < first:
        return _with_place_behind(machine, step, places, first - 1 - alone, alone)
    at = len(places) - 1 - alone_behind
    ahead = step - places[at] % step
    before = settled_behind(machine)
    return before + ahead, before, ahead + at, last - 1


def _with_place_behind(machine, step, places, window, at):
    # The first place behind the window that stands a multiple of the step behind the one to which `at` is led.
    steps = (len(places) - places[at] + step - 1) // step
    return window, window + at, places[at] + steps * step - at, settled_joined(machine)


def harm_by_rings(machine, places):
    """A harm of a reordering that is not idle, for a machine for which no such one is harmless."""
    start, stride, far = ring_sizes(places)
    length = (machine.commands - 1) * stride + far + len(places)
    row, state = exchange_harm(machine, start, stride, length - 1 - start - stride)
    contents = row[start:start + machine.commands * stride + 1:stride]
    return _first_harm(machine, places, row, state, ring_moves(places, contents))


def ring_sizes(places):
    """A triple (start, stride, far) for a reordering that is not idle.

    Its long ring from a window on turns the places start, start + stride and start + 2 * stride of the window:
    what is at the last of them goes to the first, and each other one on to the next. It is made of windows
    that begin there, or far, stride or far + stride behind.
    """
    alone, alone_behind, _ = frame(places)
    sources = back(places)
    high = len(places) - 1 - alone_behind
    far = high - alone
    return sources[high], far + sources[alone] - sources[high], far


def ring_moves(places, contents):
    """Moves that exchange the first two of the places start, start + stride, and so on, which have such contents.

    Each move is a pair: where its window begins, and whether the window is reordered, or reordered back. There
    are two like contents, and the first two are unlike.
    """
    _, stride, far = ring_sizes(places)
    moves = []
    for turn in _turns(_even_goals(contents)):
        moves = moves + _long_ring(turn * stride, far, stride)
    return moves


def _even_goals(contents):
    # Where what is at each place goes if the first two change places. For the reordering to be even two others
    # change places, too, that have like contents: there are such, as there are more places than commands.
    goals = [1, 0] + list(range(2, len(contents)))
    seen = {}
    for at, content in enumerate(contents):
        if content in seen:
            goals[seen[content]], goals[at] = goals[at], goals[seen[content]]
            return goals
        seen[content] = at
    return None


def _turns(goals):
    # The places whose turns, one after another, bring all to their goals. A turn at a place brings what is two
    # places further on to it, and leads it and the next one on by one place.
    order = list(goals)
    turns = []
    for place in range(len(order) - 2):
        while order[place] != place:
            at = max(place, order.index(place) - 2)
            order[at:at + 3] = [order[at + 2], order[at], order[at + 1]]
            turns.append(at)
    return turns


def _undone(moves):
    return [(window, not is_onward) for window, is_onward in moves[::-1]]


def _commutator(one, other):
    return one + other + _undone(one) + _undone(other)


def _ring(window, far):
    # Turns three places: only one place is moved by both windows.
    return _commutator([(window, True)], [(window + far, True)])


def _long_ring(window, far, stride):
    # Turns three places, each a stride behind the one before: only one place is moved by both rings.
    return _commutator(_undone(_ring(window, far)), _ring(window + stride, far))


def _first_harm(machine, places, row, state, moves):
    # The first window that matters, each one being reordered, or reordered back, as the moves tell.
    sources = back(places)
    for window, is_onward in moves:
        end = window + len(places)
        start = led(machine, state, row[:window])
        filling = row[window:end]
        changed = reordered(filling, places if is_onward else sources)
        if are_parted(machine, start, filling, changed):
            return filling if is_onward else changed, start
        row = row[:window] + changed + row[end:]
    return None
