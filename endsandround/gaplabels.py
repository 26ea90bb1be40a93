"""Whether an exchange never matters, told in a way that suits machines with many states and great steps."""

from endsandround.layers import behind, joined
from endsandround.machines import command_effects


def exchange_never_matters(machine, before, step, after):
    """What `may_exchange` tells, for a step of any size."""
    # Commands that do the same may be exchanged anyway, so one of them is enough.
    singles = sorted(set(command_effects(machine)))
    labels = _labels_at(singles, joined(machine, after), step - 1)
    for state in behind(machine, before):
        for one, single in enumerate(singles):
            for other in range(one):
                if labels[other][single[state]] != labels[one][singles[other][state]]:
                    return False
    return True


def _labels_at(singles, least, gap):
    """For each command and each state a label of where rows of `gap` commands, and then this command, lead it.

    Two labels are equal exactly if each row leads to states that are joined, the least ones of which are told.
    """
    labels = [[least[target] for target in single] for single in singles]
    at = 0
    mark = labels
    mark_at = 0
    while at < gap:
        labels = _labels_ahead(singles, labels)
        at += 1
        if labels == mark:
            # What comes behind the mark comes again and again.
            gap = at + (gap - at) % (at - mark_at)
        elif at >= 2 * mark_at:
            mark = labels
            mark_at = at
    return labels


def _labels_ahead(singles, labels):
    # The labels for one command more in the gap, numbered as they come, so that equal ones are easily seen.
    numbers = {}
    found = []
    for part in labels:
        behind_each = [[part[target] for target in single] for single in singles]
        found.append([numbers.setdefault(key, len(numbers)) for key in list(zip(*behind_each))])
    return found
