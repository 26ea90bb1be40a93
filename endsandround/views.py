"""Views of machines, which show some states as one, and parts of machines."""

from endsandround.common import is_number, is_tuple_of
from endsandround.errors import Refused
from endsandround.machines import Machine, reached


def is_view(machine, value):
    """Whether any value is a view of the machine."""
    if not is_tuple_of(machine.states, value) or not all([is_number(number) for number in value]):
        return False
    shown = {}
    for number, entry in zip(value, machine.steps):
        targets = tuple(value[target] for target in entry)
        if shown.setdefault(number, targets) != targets:
            return False
    return True


def viewed(machine, view):
    """The machine whose states are the numbers in a view."""
    if not is_view(machine, view):
        raise Refused(0)
    return Machine(machine.commands, _renumbered(view, machine.steps))


def _renumbered(labels, steps):
    # The steps between the labels of states, one for each label, numbered in ascending order.
    numbers = {label: number for number, label in enumerate(sorted(set(labels)))}
    found = [[] for _ in numbers]
    for label, entry in zip(labels, steps):
        found[numbers[label]] = [numbers[labels[target]] for target in entry]
    return found


def part(machine, start):
    """The machine of the states that are reached from a state."""
    states = reached(machine, start)
    numbers = {state: number for number, state in enumerate(states)}
    return Machine(machine.commands, [[numbers[target] for target in machine.steps[state]] for state in states])


def merging_view(machine, one, other):
    """The view that tells apart as many states as a view can in which two states have the same number."""
    least = list(range(machine.states))
    pairs = [(one, other)]
    while pairs:
        first, second = pairs.pop()
        ends = sorted([_end_of(least, first), _end_of(least, second)])
        if ends[0] != ends[1]:
            least[ends[1]] = ends[0]
            # What is merged stays so behind each command. It is enough to see to the pairs by which lots of states
            # come together: they merge all others.
            pairs.extend(list(zip(machine.steps[first], machine.steps[second])))
    return tuple(_end_of(least, state) for state in range(machine.states))


def _end_of(least, state):
    # The least state of a lot, to which each state of it leads step by step; the way is shortened for the next time.
    while least[state] != state:
        least[state] = least[least[state]]
        state = least[state]
    return state


def split_views(machine):
    """Some two views that only together tell all states apart, or None."""
    if machine.states == 1:
        return None
    # A view that merges anything and has no state merged in common with this one makes a pair with it. If there is
    # none, each view that merges anything merges what this one does, so that no two make a pair.
    least = _least_view(machine)
    for one in range(machine.states):
        for other in range(one):
            view = merging_view(machine, one, other)
            if _tell_all_apart(least, view):
                return least, view
    return None


def _tell_all_apart(one, other):
    return len(set(list(zip(one, other)))) == len(one)


def _least_view(machine):
    # A view that merges some states, such that no view merges some of these, and no others, but not all of them.
    view = merging_view(machine, 0, 1)
    finer = _finer_view(machine, view)
    while finer is not None:
        view = finer
        finer = _finer_view(machine, view)
    return view


def _finer_view(machine, view):
    # A view that merges some of the states that a view merges, but not all, and no others; None if there is none.
    for state, least in enumerate(view):
        for other in range(least, state):
            if view[other] == least:
                finer = merging_view(machine, other, state)
                if finer != view:
                    return finer
    return None
