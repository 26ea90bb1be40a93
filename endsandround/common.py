"""What several files need: kinds of values, divisors, and walks from node to node."""


def is_integer(value):
    """Whether any value is an `int` that is not a `bool`."""
    return isinstance(value, int) and not isinstance(value, bool)


def is_number(value):
    """Whether any value is an integer from 0 on."""
    return is_integer(value) and value >= 0


def is_below(value, bound):
    """Whether any value is a number below the bound."""
    return is_number(value) and value < bound


def is_sequence(value):
    """Whether any value is a list or a tuple."""
    return isinstance(value, (list, tuple))


def is_tuple_of(many, value):
    """Whether any value is a tuple of so many things."""
    return isinstance(value, tuple) and len(value) == many


def first_not_below(values, bound):
    """The index of the first of some values that is no number below the bound, or None."""
    for at, value in enumerate(values):
        if not is_below(value, bound):
            return at
    return None


def divisors(number):
    """All divisors of a number from 1 on, ascending."""
    small = []
    large = []
    divisor = 1
    while divisor * divisor <= number:
        if number % divisor == 0:
            small.append(divisor)
            if divisor * divisor < number:
                large.append(number // divisor)
        divisor += 1
    return tuple(small + large[::-1])


def prime_divisors(number):
    """All prime divisors of a number from 1 on, ascending."""
    primes = []
    divisor = 2
    while divisor * divisor <= number:
        if number % divisor == 0:
            primes.append(divisor)
            while number % divisor == 0:
                number = number // divisor
        divisor += 1
    if number > 1:
        primes.append(number)
    return tuple(primes)


def times(factor, many):
    """The product of a factor, so many times."""
    product = 1
    while many > 0:
        if many % 2 == 1:
            product = product * factor
        many = many // 2
        if many > 0:
            factor = factor * factor
    return product


def turned_pairs(values):
    """How many pairs of some values stand with the greater one ahead."""
    return _sorted_with_turned(values)[1]


def _sorted_with_turned(values):
    # The values ascending, and how many pairs of them stood with the greater one ahead.
    if len(values) < 2:
        return list(values), 0
    half = len(values) // 2
    ahead, turned_ahead = _sorted_with_turned(values[:half])
    behind, turned_behind = _sorted_with_turned(values[half:])
    turned = turned_ahead + turned_behind
    merged = []
    taken = 0
    for value in behind:
        while taken < len(ahead) and ahead[taken] <= value:
            merged.append(ahead[taken])
            taken += 1
        merged.append(value)
        turned += len(ahead) - taken
    return merged + ahead[taken:], turned


def least_holding(highest, holds):
    """The least number for which something holds, if it does so for `highest` and all numbers from that one on."""
    low = 0
    high = highest
    while low < high:
        middle = (low + high) // 2
        if holds(middle):
            high = middle
        else:
            low = middle + 1
    return low


def first_row(start, follow, is_goal):
    """The first of the shortest rows that lead a node to one that is a goal, or None.

    `follow(node)` tells, command by command, the node to which each command leads.
    """
    # Nodes enter the queue in the order of their first rows, so the first goal in it is the one to tell.
    came = {start: None}
    queue = [start]
    at = 0
    while at < len(queue):
        node = queue[at]
        if is_goal(node):
            return _row_to(came, node)
        for command, target in enumerate(follow(node)):
            if target not in came:
                came[target] = (node, command)
                queue.append(target)
        at += 1
    return None


def _row_to(came, node):
    row = []
    while came[node] is not None:
        node, command = came[node]
        row.append(command)
    return tuple(row[::-1])


class LotChain:
    """A lot of nodes, then all to which these are led, and so on, until a lot comes again.

    `lots` are the lots that come, at most up to the index `longest`; behind the last one comes again the
    one with the index `loop` (None if `longest` came first). `targets` tells where each node met is led; chains
    that follow alike may share it.
    """

    def __init__(self, nodes, follow, longest, targets=None):
        lot = tuple(sorted(nodes))
        self.lots = [lot]
        self.loop = None
        self.targets = {} if targets is None else targets
        places = {lot: 0}
        while self.loop is None and len(self.lots) <= longest:
            lot = self.lot_behind(lot, follow)
            if lot in places:
                self.loop = places[lot]
            else:
                places[lot] = len(self.lots)
                self.lots.append(lot)

    def lot_behind(self, lot, follow):
        """All nodes, ascending, to which those of a lot are led."""
        for node in lot:
            if node not in self.targets:
                self.targets[node] = tuple(follow(node))
        return tuple(sorted({target for node in lot for target in self.targets[node]}))

    def lot(self, at):
        """The lot with an index, of any size if a lot comes again, otherwise up to `longest`."""
        if at < len(self.lots):
            return self.lots[at]
        return self.lots[self.loop + (at - self.loop) % (len(self.lots) - self.loop)]
