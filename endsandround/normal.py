"""Normal rows: the first of all rows that are alike, and the order in which these come."""

from math import factorial

from endsandround.alike import places_by_entry
from endsandround.common import is_below
from endsandround.errors import Refused
from endsandround.triples import bags_of, checked_triple, number_row


def normal_of(triple, row):
    """The first of all rows that are alike with a row; both are known to be such."""
    entries = list(row)
    for bag in bags_of(triple, len(row)):
        for place, entry in zip(bag, sorted([row[place] for place in bag])):
            entries[place] = entry
    return tuple(entries)


def normal_row(triple, row):
    """The first of all rows that are alike with a row."""
    told = checked_triple(triple)
    return normal_of(told, number_row(row))


def _counts_by_bag(triple, row):
    # For each bag how often each entry stands in it, the entries ascending.
    found = []
    for bag in bags_of(triple, len(row)):
        found.append({entry: len(places) for entry, places in places_by_entry(row, bag).items()})
    return found


def _arrangements(bag_counts):
    # In how many ways the entries can stand in their bags.
    ways = 1
    for counts in bag_counts:
        ways = ways * factorial(sum(list(counts.values())))
        for many in list(counts.values()):
            ways = ways // factorial(many)
    return ways


def _shares(counts, ways):
    # For each entry of a bag, ascending, in how many of the ways it comes first in the bag.
    total = sum(list(counts.values()))
    return {entry: ways * many // total for entry, many in counts.items()}


def alike_count(triple, row):
    """How many rows are alike with a row, itself among them."""
    told = checked_triple(triple)
    return _arrangements(_counts_by_bag(told, number_row(row)))


def alike_at(triple, row, at):
    """The row with an index among all that are alike with a row, ascending."""
    told = checked_triple(triple)
    entries = list(number_row(row))
    bag_counts = _counts_by_bag(told, entries)
    ways = _arrangements(bag_counts)
    if not is_below(at, ways):
        raise Refused(ways)
    for place in range(told[0], len(entries) - told[1]):
        counts = bag_counts[(place - told[0]) % told[2]]
        shares = _shares(counts, ways)
        entry, at = entry_with(shares, at)
        entries[place] = entry
        counts[entry] -= 1
        ways = shares[entry]
    return tuple(entries)


def entry_with(shares, at):
    """The entry in whose share an index lies, and the index within this share."""
    for entry, share in shares.items():
        if at < share:
            return entry, at
        at = at - share
    return None


def alike_index(triple, row):
    """The index of a row among all that are alike with it, ascending."""
    told = checked_triple(triple)
    entries = number_row(row)
    bag_counts = _counts_by_bag(told, entries)
    ways = _arrangements(bag_counts)
    found = 0
    for place in range(told[0], len(entries) - told[1]):
        counts = bag_counts[(place - told[0]) % told[2]]
        shares = _shares(counts, ways)
        found = found + sum([share for entry, share in shares.items() if entry < entries[place]])
        counts[entries[place]] -= 1
        ways = shares[entries[place]]
    return found
