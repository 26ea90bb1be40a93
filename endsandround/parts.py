"""Parts of which machines are made, as lists of steps."""


def put_behind(steps, part):
    """Steps, and behind them those of a part, whose states are numbered on."""
    return steps + [[len(steps) + state for state in entry] for entry in part]


def counting_wheel(commands, counted, step, sizes):
    """A wheel that counts some commands at its place 0, modulo `sizes`.

    The state place * sizes + count is led to the next place, behind the last one to the place 0.
    """
    steps = []
    for place in range(step):
        onward = (place + 1) % step * sizes
        for count in range(sizes):
            entry = [onward + count] * commands
            if place == 0:
                for command in counted:
                    entry[command] = onward + (count + 1) % sizes
            steps.append(entry)
    return steps
