"""Named moves of stretches of a row, and where they lead its entries."""

from math import gcd

from endsandround.common import is_below, is_number, is_sequence
from endsandround.errors import InvalidMove, Refused
from endsandround.reorderings import back

# How many things a move of each name is made of.
SIZES = {"swap": 5, "turn": 4, "reverse": 3, "deal": 4, "stride": 4}


def _is_move(places, value):
    if not is_sequence(value) or len(value) == 0 or not isinstance(value[0], str):
        return False
    if SIZES.get(value[0]) != len(value) or not all([is_number(number) for number in value[1:]]):
        return False
    return _has_stretch(value) and value[1] + stretch_length(value) <= places


def _has_stretch(move):
    # Whether the numbers that tell the stretch are from 1 on, and a stride leads no two entries to one place.
    if move[0] in ("swap", "deal"):
        return move[2] > 0 and move[-1] > 0
    return move[2] > 0 and (move[0] != "stride" or gcd(move[2], move[3]) == 1)


def stretch_length(move):
    """How many entries the stretch of a move has."""
    if move[0] == "swap":
        return move[2] + move[3] + move[4]
    if move[0] == "deal":
        return move[2] * move[3]
    return move[2]


def checked_moves(places, value):
    """Any value, a sequence of moves of so many places, as a tuple of tuples."""
    if not is_sequence(value):
        raise InvalidMove(0)
    for at, entry in enumerate(value):
        if not _is_move(places, entry):
            raise InvalidMove(at)
    return tuple(tuple(entry) for entry in value)


def _entry_after(move, i):
    # Which entry of the stretch the entry i becomes.
    name, _, *told = move
    if name == "swap":
        return _after_swap(told, i)
    if name == "turn":
        return (i + told[1]) % told[0]
    if name == "reverse":
        return told[0] - 1 - i
    if name == "deal":
        row, column = divmod(i, told[1])
        return column * told[0] + row
    return i * told[1] % told[0]


def _after_swap(told, i):
    u, w, v = told
    if i < u:
        return i + w + v
    if i < u + w:
        return i - u + v
    return i - u - w


def place_after(places, moves, place):
    """Where the entry at a place stands after all moves."""
    told = checked_moves(places, moves)
    if not is_below(place, places):
        raise Refused(0)
    for move in told:
        start = move[1]
        if start <= place < start + stretch_length(move):
            place = start + _entry_after(move, place - start)
    return place


def spread(places, moves):
    """The reordering that moves do."""
    order = list(range(places))
    for move in checked_moves(places, moves):
        start = move[1]
        end = start + stretch_length(move)
        order = order[:start] + _stretch_after(move, order[start:end]) + order[end:]
    return back(order)


def _stretch_after(move, stretch):
    # The entries of a stretch in their new order.
    name, _, *told = move
    if name == "swap":
        u, w, _ = told
        return stretch[u + w:] + stretch[u:u + w] + stretch[:u]
    if name == "turn":
        ahead = told[0] - told[1] % told[0]
        return stretch[ahead:] + stretch[:ahead]
    if name == "reverse":
        return stretch[::-1]
    if name == "deal":
        return [entry for column in range(told[1]) for entry in stretch[column::told[1]]]
    many = told[0]
    stride = inverse(many, told[1])
    return [stretch[at * stride % many] for at in range(many)]


def inverse(many, factor):
    """The least number by which a factor must be multiplied to leave 1 when divided, as 1 does."""
    # Each remainder is kept with a multiplier of the factor that leaves it.
    ahead, ahead_times = many, 0
    behind, behind_times = factor % many, 1
    while behind != 0:
        often = ahead // behind
        ahead, ahead_times, behind, behind_times = (
            behind, behind_times, ahead - often * behind, ahead_times - often * behind_times,
        )
    return ahead_times % many


def _undone(move):
    name, start, *told = move
    if name == "swap":
        return name, start, told[2], told[1], told[0]
    if name == "turn":
        return name, start, told[0], -told[1] % told[0]
    if name == "reverse":
        return move
    if name == "deal":
        return name, start, told[1], told[0]
    return name, start, told[0], inverse(told[0], told[1])


def undoing(places, moves):
    """The moves that undo some moves, the last one first."""
    return tuple(_undone(move) for move in checked_moves(places, moves)[::-1])
