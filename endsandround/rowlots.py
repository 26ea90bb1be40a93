"""Lots of rows: what claims show to have the same effect, and machines that tell just these lots apart."""

from endsandround.errors import Refused
from endsandround.machines import Machine, checked_row
from endsandround.reorderings import back, idle, shifted

ROWS = 300
STATES = 100


def laid_moves(claims, length):
    """All moves of rows of a length that move something, each with the reordering of the row that it does."""
    found = []
    for index, places in enumerate(claims.reorderings):
        if places != idle(len(places)):
            for before in range(length - len(places) + 1):
                onward = shifted(places, before, length - before - len(places))
                found.append(((index, 0, before), onward))
                found.append(((index, 1, before), back(onward)))
    return found


def _ways_into(claims, row, longest):
    # For each row of the lot the row ahead of it on some way from `row`, and the move between; None for `row`.
    # The search ends if more than the longest number of rows is found.
    moves = [(move, back(places)) for move, places in laid_moves(claims, len(row))]
    ways = {row: None}
    found = [row]
    at = 0
    while at < len(found) and len(found) <= longest:
        for move, sources in moves:
            target = tuple([found[at][source] for source in sources])
            if target not in ways:
                ways[target] = (found[at], move)
                found.append(target)
        at += 1
    return ways


def _checked_ways(claims, row):
    ways = _ways_into(claims, row, ROWS)
    if len(ways) > ROWS:
        raise Refused(ROWS)
    return ways


def row_lot(claims, row):
    """All rows to which moves lead a row, ascending."""
    return tuple(sorted(_checked_ways(claims, checked_row(claims.commands, row))))


def row_path(claims, row, other):
    """Some moves that lead a row, one after another, to another one, or None."""
    start = checked_row(claims.commands, row)
    target = checked_row(claims.commands, other)
    ways = _checked_ways(claims, start)
    if target not in ways:
        return None
    found = []
    while ways[target] is not None:
        target, move = ways[target]
        found.append(move)
    return tuple(found[::-1])


def _rows_of_length(commands, length):
    rows = [()]
    for _ in range(length):
        rows = [(*row, command) for row in rows for command in range(commands)]
    return rows


def lots_of_length(claims, length):
    """For each row of a length the number of its lot; the lots are numbered as their first rows come."""
    rows = _rows_of_length(claims.commands, length)
    lots = {}
    many = 0
    for row in rows:
        if row not in lots:
            for other in _ways_into(claims, row, len(rows)):
                lots[other] = many
            many += 1
    return lots


def lot_machine(claims, length):
    """The machine that tells the lots of rows of at most so many entries apart."""
    numbers = {}
    states = 0
    for size in range(length + 1):
        for row, lot in lots_of_length(claims, size).items():
            numbers[row] = states + lot
        states = 1 + max(list(numbers.values()))
    if states + 1 > STATES:
        raise Refused(states + 1)
    # Lots of the greatest length, and the last state, lead to the last state.
    steps = [[states] * claims.commands for _ in range(states + 1)]
    for row, lot in numbers.items():
        if len(row) < length:
            steps[lot] = [numbers[row + (command,)] for command in range(claims.commands)]
    return Machine(claims.commands, steps)
