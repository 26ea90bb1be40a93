"""States behind so many commands, and states that so many commands join."""

from endsandround.errors import Refused


def _depths(machine):
    # For each state the greatest count of commands behind which one can be in it, None if there is no greatest.
    # A state is done as soon as all states that lead to it are; what stays open comes behind some ring.
    open_ways = [0] * machine.states
    for entry in machine.steps:
        for target in entry:
            open_ways[target] += 1
    depths = [0] * machine.states
    done = [source for source, ways in enumerate(open_ways) if ways == 0]
    at = 0
    while at < len(done):
        state = done[at]
        for target in machine.steps[state]:
            depths[target] = max(depths[target], depths[state] + 1)
            open_ways[target] -= 1
            if open_ways[target] == 0:
                done.append(target)
        at += 1
    return [depth if ways == 0 else None for depth, ways in zip(depths, open_ways)]


def _is_behind(depth, count):
    return depth is None or depth >= count


def behind(machine, count):
    """The states in which one can be after some row of `count` commands."""
    return tuple(state for state, depth in enumerate(_depths(machine)) if _is_behind(depth, count))


def settled_behind(machine):
    """The least count from which on the states behind stay the same."""
    return max([depth + 1 for depth in _depths(machine) if depth is not None], default=0)


def row_behind(machine, state, count):
    """A pair (start, row): some row of `count` commands that leads some start to a state, one that is behind."""
    depths = _depths(machine)
    sources = [[] for _ in range(machine.states)]
    for source, entry in enumerate(machine.steps):
        for command, target in enumerate(entry):
            sources[target].append((source, command))
    row = []
    for left in range(count - 1, -1, -1):
        ways = [way for way in sources[state] if _is_behind(depths[way[0]], left)]
        state, command = ways[0]
        row.append(command)
    return state, tuple(row[::-1])


def _join_layers(machine):
    # For the counts 0, 1, .. up to the last one that joins more: for each state the least state joined with it.
    layer = tuple(range(machine.states))
    layers = []
    while not layers or layer != layers[-1]:
        layers.append(layer)
        least = {}
        keys = [tuple(layer[target] for target in entry) for entry in machine.steps]
        for state, key in enumerate(keys):
            least.setdefault(key, state)
        layer = tuple(least[key] for key in keys)
    return layers


def joined(machine, count):
    """For each state the least state with which every row of `count` commands joins it."""
    layers = _join_layers(machine)
    return layers[min(count, len(layers) - 1)]


def settled_joined(machine):
    """The least count from which on no more states are joined."""
    return len(_join_layers(machine)) - 1


def keeping_row(machine, one, other, count):
    """Some row of `count` commands that leads two states to different states."""
    layers = _join_layers(machine)
    last = len(layers) - 1
    layer = layers[min(count, last)]
    if layer[one] == layer[other]:
        raise Refused(0)
    row = []
    for left in range(count - 1, -1, -1):
        layer = layers[min(left, last)]
        command = _parting_command(machine, layer, one, other)
        row.append(command)
        one = machine.steps[one][command]
        other = machine.steps[other][command]
    return tuple(row)


def _parting_command(machine, layer, one, other):
    for command in range(machine.commands):
        if layer[machine.steps[one][command]] != layer[machine.steps[other][command]]:
            return command
    return None
