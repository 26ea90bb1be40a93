"""Slow, plain answers to compare with, found by trying all rows; and machines to try them on."""

from itertools import permutations, product
from random import Random

from endsandround.machines import Machine


def rows(commands, length):
    return list(product(range(commands), repeat=length))


def run(machine, state, row):
    for command in row:
        state = machine.steps[state][command]
    return state


def effect(machine, row):
    return tuple(run(machine, state, row) for state in range(machine.states))


def moved(row, reordering):
    result = [None] * len(row)
    for place, entry in zip(reordering, row):
        result[place] = entry
    return tuple(result)


def swapped(row, i, j):
    entries = list(row)
    entries[i], entries[j] = entries[j], entries[i]
    return tuple(entries)


def behind(machine, count):
    found = {run(machine, s, row) for row in rows(machine.commands, count) for s in range(machine.states)}
    return tuple(sorted(found))


def are_joined(machine, one, other, count):
    return all(run(machine, one, row) == run(machine, other, row) for row in rows(machine.commands, count))


def gap_pairs(machine, before, a, c, gap):
    found = set()
    for state in behind(machine, before):
        for row in rows(machine.commands, gap):
            found.add((run(machine, state, (a, *row)), run(machine, state, (c, *row))))
    return tuple(sorted(found))


def is_harmless(machine, reordering):
    return all(
        effect(machine, row) == effect(machine, moved(row, reordering))
        for row in rows(machine.commands, len(reordering))
    )


def may_exchange(machine, before, step, after):
    return all(
        effect(machine, row) == effect(machine, swapped(row, before, before + step))
        for row in rows(machine.commands, before + step + 1 + after)
    )


def is_harm(machine, reordering, harm):
    filling, state = harm
    changed = moved(filling, reordering)
    return len(filling) == len(reordering) and run(machine, state, filling) != run(machine, state, changed)


def links(machine, length):
    return tuple(
        min(i for i in range(j + 1) if i == j or may_exchange(machine, i, j - i, length - 1 - j))
        for j in range(length)
    )


def is_allowed(triple, reordering):
    if triple is None:
        return reordering == tuple(range(len(reordering)))
    first, last, step = triple
    many = len(reordering)
    for at, place in enumerate(reordering):
        if at != place and (at < first or at >= many - last or (at - place) % step):
            return False
    return True


def reorderings(many):
    return list(permutations(range(many)))


def random_machines(seed, many, commands=(1, 2, 3), states=(1, 2, 3, 4)):
    random = Random(seed)
    for _ in range(many):
        a = random.choice(commands)
        n = random.choice(states)
        yield Machine(a, [[random.randrange(n) for _ in range(a)] for _ in range(n)])


def near_machines(seed, many, commands=(2, 3), states=(2, 3, 4, 5)):
    """Machines whose commands do nearly the same, so that many of them have numbers."""
    random = Random(seed)
    for _ in range(many):
        a = random.choice(commands)
        n = random.choice(states)
        base = [random.randrange(n) for _ in range(n)] if random.random() < 0.5 else random.sample(range(n), n)
        steps = [[base[state]] * a for state in range(n)]
        for command in range(1, a):
            steps[random.randrange(n)][command] = random.randrange(n)
        yield Machine(a, steps)


def small_machines():
    """All machines of one or two commands and at most two states, and some with three."""
    for a, n in ((1, 1), (1, 2), (2, 1), (2, 2), (1, 3)):
        for flat in product(range(n), repeat=a * n):
            yield Machine(a, [flat[a * s:a * s + a] for s in range(n)])
    for at, flat in enumerate(product(range(3), repeat=6)):
        if at % 4 == 0:
            yield Machine(2, [flat[2 * s:2 * s + 2] for s in range(3)])


def wheel(step):
    """A machine with the numbers (0, 0, step), as steps."""
    steps = []
    for state in range(2 * step):
        place, bit = divmod(state, 2)
        onward = 2 * ((place + 1) % step)
        steps.append((onward + bit, onward + ((1 - bit) if place == 0 else bit)))
    return steps


def first_memory(first):
    """A machine with the numbers (first, 0, 1), as steps."""
    steps = [(state + 1, state + 1) for state in range(first - 1)]
    return steps + [(first, first + 1), (first, first), (first + 1, first + 1)]


def last_memory(last):
    """A machine with the numbers (0, last, 1), as steps."""
    return [(0, min(state + 1, last)) for state in range(last + 1)]


def chain(many):
    """A machine whose commands do the same and lead down to the state 0, as steps."""
    return [(max(state - 1, 0),) * 2 for state in range(many)]


def short_memory(before, longest):
    """A machine of rows that matter only as long as they are short, as steps: a command behind `before` - 1 others,
    from the state 0, is kept while less than `longest` others follow; at the end all is in the last state."""
    steps = [(state + 1, state + 1) for state in range(before - 1)] + [(before, before + longest)]
    last = before + 2 * longest
    for start in (before, before + longest):
        steps += [(state + 1, state + 1) for state in range(start, start + longest - 1)] + [(last, last)]
    return steps + [(last, last)]


def one_word(*words):
    """A machine of two commands that shows, from the state 0, whether a row is one of some equally long words."""
    numbers = {(): 0}
    for word in words:
        for many in range(1, len(word)):
            numbers.setdefault(word[:many], len(numbers))
    found, other = len(numbers), len(numbers) + 1
    steps = [
        [found if (*row, c) in words else numbers.get((*row, c), other) for c in range(2)]
        for row in numbers
    ]
    return Machine(2, [*steps, (other, other), (other, other)])


def finder(commands, word):
    """A machine that finds out, from the state 0 on, whether a word has come, and then stays."""
    steps = []
    for many in range(len(word)):
        entry = []
        for c in range(commands):
            row = (*word[:many], c)
            entry.append(max(n for n in range(len(row) + 1) if row[len(row) - n:] == word[:n]))
        steps.append(entry)
    return Machine(commands, [*steps, [len(word)] * commands])


def group_machine(*singles):
    """The machine whose commands have these effects."""
    return Machine(len(singles), [list(entry) for entry in zip(*singles)])


def reversible_machines(seed, many, commands=(1, 2, 3, 4), states=(1, 2, 3, 4, 5, 6)):
    """Reversible machines, among them many that have numbers."""
    random = Random(seed)
    for _ in range(many):
        n = random.choice(states)
        base = random.sample(range(n), n)
        singles = [base]
        kind = random.random()
        while len(singles) < random.choice(commands):
            single = random.sample(range(n), n) if kind < 0.3 else list(base)
            if kind >= 0.3 and n > 1 and random.random() < 0.6:
                i, j = random.sample(range(n), 2)
                single[i], single[j] = single[j], single[i]
            singles.append(single)
        random.shuffle(singles)
        yield group_machine(*singles)
    for step in range(1, 6):
        yield Machine(2, wheel(step))
        yield wheels_by_command((step, 2))
        yield beside(wheel(step), wheel(4))


def wheels_by_command(steps):
    """A machine with a command 0 and, for each of some wheels, one command that turns its bit over."""
    entries = []
    for at, step in enumerate(steps):
        offset = len(entries)
        for idle, turned in wheel(step):
            entries.append([offset + (turned if command == at + 1 else idle) for command in range(len(steps) + 1)])
    return Machine(len(steps) + 1, entries)


def beside(*parts):
    """One machine of two commands with the states of some others, one behind another."""
    steps = []
    for part in parts:
        offset = len(steps)
        steps += [tuple(state + offset for state in entry) for entry in part]
    return Machine(2, steps)


def bag_of(triple, length, place):
    """Which bag a place is in, None outside of the middle."""
    first, last, step = triple
    return place % step if first <= place < length - last else None


def are_alike(triple, one, other):
    """Whether rows are alike, by what the document says of each place, bag and command."""
    if len(one) != len(other):
        return False
    length = len(one)
    bags = [bag_of(triple, length, place) for place in range(length)]
    if any(bags[place] is None and one[place] != other[place] for place in range(length)):
        return False
    return all(
        len([p for p in range(length) if bags[p] == bag and one[p] == command])
        == len([p for p in range(length) if bags[p] == bag and other[p] == command])
        for bag in set(bags) - {None} for command in (*one, *other)
    )


def alike_rows(triple, row):
    """All rows that are alike with one, ascending."""
    return [other for other in sorted(set(permutations(row))) if are_alike(triple, row, other)]


def left_of(row, omission):
    """What an omission leaves of a row."""
    return tuple(row[at] for at in range(len(row)) if omission[at] != 1)


def is_harmless_omission(machine, omission):
    return all(
        effect(machine, row) == effect(machine, left_of(row, omission))
        for row in rows(machine.commands, len(omission))
    )


def never_counts(machine, before, after):
    return all(
        effect(machine, row) == effect(machine, (*row[:before], command, *row[before + 1:]))
        for row in rows(machine.commands, before + 1 + after) for command in range(machine.commands)
    )


def may_omit(machine, before, many, after):
    return is_harmless_omission(machine, (0,) * before + (1,) * many + (0,) * after)


def counting_machines(seed, many, commands=(1, 2, 3), states=(1, 2, 3, 4, 5, 6)):
    """Machines whose commands do the same from many states, so that many of them have numbers of omissions."""
    random = Random(seed)
    for _ in range(many):
        a = random.choice(commands)
        n = random.choice(states)
        base = random.sample(range(n), n)
        if random.random() < 0.5:
            base[random.randrange(n)] = random.randrange(n)
        steps = [[base[state]] * a for state in range(n)]
        if a > 1 and random.random() < 0.8:
            # A state apart, or one behind which all is soon the same.
            steps[random.randrange(n)] = [random.randrange(n) for _ in range(a)]
        yield Machine(a, steps)
    for first in (1, 2):
        for last in (1, 2):
            yield beside(first_memory(first), last_memory(last), [((s + 1) % 3,) * 2 for s in range(3)])
