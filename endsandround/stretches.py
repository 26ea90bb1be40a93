"""Pieces of rows that moves keep together, and whether moves are allowed, and harmless."""

from math import gcd

from endsandround.allowing import is_frame_allowed
from endsandround.court import numbers
from endsandround.errors import Refused
from endsandround.layers import settled_behind, settled_joined
from endsandround.moves import checked_moves


def pieces(places, moves):
    """The fewest stretches of entries that stay together, and the places to which the moves lead them."""
    return _pieces_of(places, checked_moves(places, moves))


def _pieces_of(places, moves):
    # Of moves that are known to be such.
    for at, move in enumerate(moves):
        if move[0] in ("deal", "stride"):
            raise Refused(at)
    # Runs of entries (start, length, turned), in the order in which they stand.
    runs = [(0, places, False)]
    for move in moves:
        runs = _runs_after(runs, move)
    placed = []
    to = 0
    for start, length, turned in runs:
        placed.append((start, length, to, turned))
        to += length
    return _joined_pieces(sorted(placed))


def _runs_after(runs, move):
    name, start, *told = move
    ahead, rest = _cut(runs, start)
    if name == "reverse":
        stretch, behind = _cut(rest, told[0])
        return ahead + [(at, length, not turned) for at, length, turned in stretch[::-1]] + behind
    if name == "turn":
        # The last entries change places with all others.
        last = told[1] % told[0]
        told = [told[0] - last, 0, last]
    one, rest = _cut(rest, told[0])
    between, rest = _cut(rest, told[1])
    other, behind = _cut(rest, told[2])
    return ahead + other + between + one + behind


def _cut(runs, many):
    # The runs of the first so many places, and those of all others.
    for at, (start, length, turned) in enumerate(runs):
        if many == 0:
            return runs[:at], runs[at:]
        if many < length:
            split = length - many if turned else many
            parts = [(start, split, turned), (start + split, length - split, turned)]
            if turned:
                parts = parts[::-1]
            return runs[:at] + parts[:1], parts[1:] + runs[at + 1:]
        many -= length
    return runs, []


def _images(piece):
    # Where the first and the last entry of a piece go.
    _, length, to, turned = piece
    if turned:
        return to + length - 1, to
    return to, to + length - 1


def _joined_pieces(placed):
    # No place takes two entries: so neighbours whose ends go to neighbouring places go on in the same order.
    found = []
    for piece in placed:
        start, length, to, turned = piece
        if found and abs(_images(piece)[0] - _images(found[-1])[1]) == 1:
            before = found.pop()
            turned = _images(piece)[0] < _images(before)[1]
            start, length, to = before[0], before[1] + length, min(before[2], to)
        found.append((start, length, to, turned and length > 1))
    return tuple(found)


def moves_frame(places, moves):
    """The frame of the reordering that moves do."""
    told = checked_moves(places, moves)
    if len(told) == 1 and told[0][0] in ("deal", "stride"):
        return _single_frame(places, told[0])
    moved = [piece for piece in _pieces_of(places, told) if _is_moved(piece)]
    if not moved:
        return None
    step = 0
    for piece in moved:
        step = gcd(step, _distance(piece))
        if piece[3]:
            step = gcd(step, 2)
    return moved[0][0], places - moved[-1][0] - moved[-1][1], step


def _single_frame(places, move):
    # Of a deal or a stride, which leave the first entry alone, and a deal the last one, too.
    name, start, one, other = move
    if name == "deal":
        step = gcd(one - 1, other - 1)
        is_idle = one == 1 or other == 1
        return None if is_idle else (start + 1, places - start - one * other + 1, step)
    if (other - 1) % one == 0:
        return None
    return start + 1, places - start - one, gcd(one, other - 1)


def _is_moved(piece):
    return piece[3] or piece[0] != piece[2]


def _distance(piece):
    # By which the first entry is moved.
    return _images(piece)[0] - piece[0]


def wrong_place(triple, places, moves):
    """The first place whose entry the moves lead where a triple, or None, does not allow; None if there is none."""
    found = pieces(places, moves)
    # As if all places were first ones that must stay.
    chosen = (places, 0, 1) if triple is None else triple
    for piece in found:
        place = _wrong_in(chosen, places, piece)
        if place is not None:
            return place
    return None


def _wrong_in(triple, places, piece):
    # The first wrong place of a piece. Within it distances change by 2, and at most one entry is not moved: so it
    # is one of the first two, or of the first two of those that must stay at the end.
    end = max(0, places - triple[1] - piece[0])
    for at in sorted([0, 1, end, end + 1]):
        if at < piece[1] and _is_wrong(triple, places, piece[0] + at, _distance(piece) - (2 * at if piece[3] else 0)):
            return piece[0] + at
    return None


def _is_wrong(triple, places, place, distance):
    if distance == 0:
        return False
    return place < triple[0] or place >= places - triple[1] or distance % triple[2] != 0


def moves_harmless(machine, places, moves):
    """Whether the reordering that moves do is harmless for a machine, in rows that are long enough."""
    triple = numbers(machine)
    told = moves_frame(places, moves)
    if triple is not None:
        least = settled_behind(machine) + settled_joined(machine) + triple[2] + 1
        if places < least:
            raise Refused(least)
    return is_frame_allowed(triple, told)
