"""Rows alike: which rows differ only by an order that does not matter."""

from math import factorial

from endsandround.errors import Refused
from endsandround.reorderings import idle
from endsandround.triples import bags_of, checked_triple, number_row


def places_by_entry(row, places):
    """For each entry that stands at some of these places, ascending, the places, in their order."""
    found = {entry: [] for entry in sorted({row[place] for place in places})}
    for place in places:
        found[row[place]].append(place)
    return found


def _is_outside(triple, length, place):
    return place < triple[0] or place >= length - triple[1]


def unlikeness_of(triple, one, other):
    """What shows that two rows are not alike, or None; all three are known to be such."""
    if len(one) != len(other):
        return ("length",)
    for place, (entry, other_entry) in enumerate(zip(one, other)):
        if entry != other_entry and _is_outside(triple, len(one), place):
            return "place", place
    for bag in bags_of(triple, len(one)):
        entry = _first_unlike([one[place] for place in bag], [other[place] for place in bag])
        if entry is not None:
            return "bag", bag[0], entry
    return None


def _first_unlike(entries, others):
    # The least entry that stands unlike often in two lists of one length, or None.
    for entry, other_entry in zip(sorted(entries), sorted(others)):
        if entry != other_entry:
            return min(entry, other_entry)
    return None


def checked_rows(triple, one, other):
    """The triple and the two rows, any values, as such."""
    return checked_triple(triple), number_row(one), number_row(other)


def checked_alike(triple, one, other):
    """The triple and the two rows, any values, as such, the rows being alike."""
    told, row, other_row = checked_rows(triple, one, other)
    if unlikeness_of(told, row, other_row) is not None:
        raise Refused(0)
    return told, row, other_row


def are_alike(triple, one, other):
    """Whether two rows are alike."""
    return unlikeness(triple, one, other) is None


def unlikeness(triple, one, other):
    """What shows first that two rows are not alike, or None."""
    told, row, other_row = checked_rows(triple, one, other)
    return unlikeness_of(told, row, other_row)


def leading(triple, one, other):
    """Some allowed reordering that leads one row to another, and moves only where they differ."""
    told, row, other_row = checked_alike(triple, one, other)
    goals = list(idle(len(row)))
    for bag in bags_of(told, len(row)):
        differing = [place for place in bag if row[place] != other_row[place]]
        targets = places_by_entry(other_row, differing)
        for entry, places in places_by_entry(row, differing).items():
            for place, target in zip(places, targets[entry]):
                goals[place] = target
    return tuple(goals)


def leading_count(triple, one, other):
    """How many allowed reorderings lead one row to another."""
    told, row, other_row = checked_rows(triple, one, other)
    if unlikeness_of(told, row, other_row) is not None:
        return 0
    ways = 1
    for bag in bags_of(told, len(row)):
        for places in list(places_by_entry(row, bag).values()):
            ways = ways * factorial(len(places))
    return ways
