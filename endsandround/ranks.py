"""Kinds in order: the normal rows of a length, ascending, and their indexes."""

from endsandround.common import is_below
from endsandround.errors import Refused
from endsandround.machines import checked_row
from endsandround.normal import entry_with, normal_of
from endsandround.rowkinds import choices, kind_count
from endsandround.triples import bags_of, checked_triple


class Descent:
    """The way to a normal row, entry by entry: how many of them begin so, and how these share what comes next."""

    def __init__(self, triple, commands, length):
        self.commands = commands
        self.ways = kind_count(triple, commands, length)
        # Each place outside of the bags is as a bag of its own. A bag is told by its first place.
        self.bags = list(range(length))
        self.left = [1] * length
        self.least = [0] * length
        for bag in bags_of(triple, length):
            self.left[bag[0]] = len(bag)
            for place in bag:
                self.bags[place] = bag[0]

    def shares(self, place):
        """For each command that can stand at a place, ascending, how many normal rows go on with it."""
        bag = self.bags[place]
        least = self.least[bag]
        others = self.ways // choices(self.commands - least, self.left[bag])
        behind = self.left[bag] - 1
        return {command: others * choices(self.commands - command, behind) for command in range(least, self.commands)}

    def step_on(self, place, command, share):
        """Puts a command at a place; the entries of a bag do not descend."""
        bag = self.bags[place]
        self.least[bag] = command
        self.left[bag] -= 1
        self.ways = share


def kind_at(triple, commands, length, index):
    """The normal row with an index among all of a length, ascending."""
    descent = Descent(checked_triple(triple), commands, length)
    if not is_below(index, descent.ways):
        raise Refused(descent.ways)
    row = []
    for place in range(length):
        shares = descent.shares(place)
        command, index = entry_with(shares, index)
        descent.step_on(place, command, shares[command])
        row.append(command)
    return tuple(row)


def kind_index(triple, commands, row):
    """The index of the normal row that is alike with a row."""
    told = checked_triple(triple)
    entries = normal_of(told, checked_row(commands, row))
    descent = Descent(told, commands, len(entries))
    found = 0
    for place, entry in enumerate(entries):
        shares = descent.shares(place)
        found += sum([share for command, share in shares.items() if command < entry])
        descent.step_on(place, entry, shares[entry])
    return found
