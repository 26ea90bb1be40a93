"""Sure reorderings: what claims show to be harmless, and machines that refute what they do not allow."""

from endsandround.allowing import is_allowed
from endsandround.claims import broken, shown_numbers
from endsandround.common import is_tuple_of, times
from endsandround.errors import Refused
from endsandround.judge import is_harm
from endsandround.machines import Machine
from endsandround.reorderings import back, checked_reordering, frame, idle, reordered
from endsandround.rowlots import ROWS, lots_of_length
from endsandround.ties import is_full


def is_sure(claims, reordering):
    """Whether a reordering is harmless for every machine that keeps the claims."""
    places = checked_reordering(reordering)
    if not is_allowed(shown_numbers(claims), places):
        return False
    if places == idle(len(places)) or is_full(claims, len(places)):
        return True
    # More than twelve places have more rows than that anyway, with two commands or more.
    if times(claims.commands, len(places)) > ROWS:
        raise Refused(len(places))
    lots = lots_of_length(claims, len(places))
    return all([lots[reordered(row, places)] == lot for row, lot in lots.items()])


def refutation(claims, reordering):
    """Some machine that keeps the claims, and a harm for it of a reordering that these do not allow."""
    places = checked_reordering(reordering)
    triple = shown_numbers(claims)
    if is_allowed(triple, places):
        raise Refused(0)
    steps, filling, state = _refuting(triple, places)
    # Further commands do what the command 1 does.
    return Machine(claims.commands, [entry + entry[1:] * (claims.commands - 2) for entry in steps]), filling, state


def _refuting(triple, places):
    # The steps of a machine of two commands, a row and a state.
    if triple is None:
        return _by_climbing(places)
    alone, alone_behind, step = frame(places)
    if alone < triple[0]:
        return _by_first(places, alone)
    if alone_behind < triple[1]:
        return _by_last(places, alone_behind)
    return _by_wheel(places, triple[2])


def _by_climbing(places):
    # Whether 1 comes somewhere behind 0: not before the first entry that is moved has been led there.
    moved = frame(places)[0] + 1
    return [[1, 0], [1, 2], [2, 2]], (1,) * moved + (0,) * (len(places) - moved), 0


def _by_first(places, alone):
    # Keeps the entry at the first place that is moved.
    steps = [[state + 1] * 2 for state in range(alone)]
    steps = steps + [[alone + 1, alone + 2], [alone + 1] * 2, [alone + 2] * 2]
    return steps, _single(len(places), alone), 0


def _by_last(places, alone_behind):
    # Counts the entries behind the last 0, up to one more than those that are left alone.
    at = back(places)[len(places) - 1 - alone_behind]
    steps = [[0, min(state, alone_behind) + 1] for state in range(alone_behind + 2)]
    return steps, tuple(0 if place == at else 1 for place in range(len(places))), 0


def _by_wheel(places, step):
    # Turns a bit over with each 1 at every step-th place, one of which an entry leaves.
    at = [at for at, place in enumerate(places) if (place - at) % step != 0][0]
    steps = []
    for place in range(step):
        onward = 2 * ((place + 1) % step)
        for bit in (0, 1):
            steps.append([onward + bit, onward + (1 - bit if place == 0 else bit)])
    return steps, _single(len(places), at), -at % step * 2


def _single(many, at):
    # A row of 0, with a 1 at one place.
    return tuple(1 if place == at else 0 for place in range(many))


def is_refutation(claims, reordering, value):
    """Whether any value is a triple of a machine that keeps the claims, and a harm of the reordering for it."""
    places = checked_reordering(reordering)
    if not is_tuple_of(3, value) or not isinstance(value[0], Machine):
        return False
    machine, filling, state = value
    if machine.commands != claims.commands or not is_harm(machine, places, (filling, state)):
        return False
    return broken(claims, machine) is None
