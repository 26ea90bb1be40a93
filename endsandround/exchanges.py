"""Exchanges: the fewest that lead from a row to one that is alike."""

from endsandround.alike import checked_alike, places_by_entry
from endsandround.common import turned_pairs
from endsandround.triples import bags_of, checked_triple, number_row


def _goals(bag, row, other):
    # For each place of a bag the index in the bag to which its entry goes; like entries keep their order.
    indexes = {place: at for at, place in enumerate(bag)}
    targets = places_by_entry(other, bag)
    goals = [0] * len(bag)
    for entry, places in places_by_entry(row, bag).items():
        for place, target in zip(places, targets[entry]):
            goals[indexes[place]] = indexes[target]
    return goals


def exchange_count(triple, one, other):
    """The fewest exchanges that lead from a row to one that is alike."""
    told, row, other_row = checked_alike(triple, one, other)
    return sum([turned_pairs(_goals(bag, row, other_row)) for bag in bags_of(told, len(row))])


def fewest_exchanges(triple, one, other):
    """The places of some fewest exchanges that lead, one after another, from a row to one that is alike."""
    told, row, other_row = checked_alike(triple, one, other)
    found = []
    for bag in bags_of(told, len(row)):
        found.extend([bag[at] for at in _sorting_exchanges(_goals(bag, row, other_row))])
    return tuple(found)


def _sorting_exchanges(goals):
    # Indexes at which neighbours change places, one after another, until the goals ascend.
    order = list(goals)
    found = []
    for end in range(1, len(order)):
        at = end
        while at > 0 and order[at - 1] > order[at]:
            order[at - 1], order[at] = order[at], order[at - 1]
            at -= 1
            found.append(at)
    return found


def greatest_count(triple, row):
    """The most exchanges that are needed between any two rows that are alike with a row."""
    told = checked_triple(triple)
    entries = number_row(row)
    found = 0
    for bag in bags_of(told, len(entries)):
        ahead = 0
        for places in list(places_by_entry(entries, bag).values()):
            found += ahead * len(places)
            ahead += len(places)
    return found
