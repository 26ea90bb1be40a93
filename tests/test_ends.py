"""Point 68: the other end, and delay."""

from itertools import product
from random import Random

from endsandround.court import may_exchange, numbers
from endsandround.ends import delayed, mirrored
from endsandround.machines import Machine
from tests import brute
from tests.checks import Case

TURNS = Machine(2, [(1, 0), (0, 2), (2, 1)])


def all_effects(machine):
    found = {tuple(range(machine.states))}
    singles = [tuple(entry[c] for entry in machine.steps) for c in range(machine.commands)]
    waiting = sorted(found)
    while waiting:
        state = waiting.pop()
        for single in singles:
            target = tuple(single[s] for s in state)
            if target not in found:
                found.add(target)
                waiting.append(target)
    return sorted(found)


def machines():
    yield from brute.small_machines()
    yield from brute.near_machines(681, 40)
    yield from brute.random_machines(682, 30, states=(1, 2, 3))
    yield brute.beside(brute.first_memory(2), brute.last_memory(1))
    yield Machine(2, brute.wheel(3))
    yield Machine(2, brute.short_memory(2, 2))
    yield brute.beside(brute.first_memory(1), brute.wheel(2))


class MirroredTest(Case):
    def test_as_told(self):
        for machine in machines():
            effects = all_effects(machine)
            if len(effects) > 200:
                continue
            found = mirrored(machine)
            self.assertEqual((found.commands, found.states), (machine.commands, len(effects)))
            for at, state in enumerate(effects):
                for command in range(machine.commands):
                    wanted = tuple(state[machine.steps[s][command]] for s in range(machine.states))
                    self.assertEqual(effects[found.steps[at][command]], wanted)

    def test_rows_are_read_from_their_end(self):
        random = Random(683)
        for machine in machines():
            effects = all_effects(machine)
            if len(effects) > 200:
                continue
            found = mirrored(machine)
            start = effects.index(tuple(range(machine.states)))
            for _ in range(5):
                row = tuple(random.randrange(machine.commands) for _ in range(random.randrange(8)))
                self.assertEqual(effects[brute.run(found, start, row)], brute.effect(machine, row[::-1]))

    def test_facts(self):
        for machine in machines():
            if len(all_effects(machine)) > 120:
                continue
            found = mirrored(machine)
            triple = numbers(machine)
            wanted = None if triple is None else (triple[1], triple[0], triple[2])
            self.assertEqual(numbers(found), wanted)
            for before, step, after in product(range(3), (1, 2, 3), range(3)):
                self.assertEqual(may_exchange(found, before, step, after), may_exchange(machine, after, step, before))

    def test_told(self):
        self.assertEqual(mirrored(machine=Machine(2, [(0, 0), (0, 0)])), Machine(2, [(0, 0), (0, 0)]))
        self.assertEqual(mirrored(Machine(2, [(0, 1), (0, 1)])), Machine(2, [(0, 0), (0, 2), (2, 2)]))
        self.is_all_tuples(mirrored(TURNS).steps)

    def test_up_to_200_effects(self):
        machine = Machine(2, [((s + 1) % 150,) * 2 for s in range(150)])
        self.assertEqual(mirrored(machine).states, 150)
        machine = Machine(2, brute.last_memory(100))
        self.assertEqual(mirrored(machine).states, len(all_effects(machine)))
        self.assertEqual(numbers(mirrored(machine)), (100, 0, 1))


class DelayedTest(Case):
    def test_as_told(self):
        for machine in brute.random_machines(684, 25):
            for many in range(4):
                words = brute.rows(machine.commands, many)
                states = [(word, s) for word in words for s in range(machine.states)]
                found = delayed(machine, many)
                self.assertEqual((found.commands, found.states), (machine.commands, len(states)))
                for at, (word, s) in enumerate(states):
                    for command in range(machine.commands):
                        done, *rest = (*word, command)
                        wanted = (tuple(rest), machine.steps[s][done])
                        self.assertEqual(states[found.steps[at][command]], wanted)

    def test_facts(self):
        for machine in machines():
            if machine.commands == 1:
                continue
            triple = numbers(machine)
            for many in range(3 if machine.commands < 3 else 2):
                found = delayed(machine, many)
                wanted = None if triple is None else (max(0, triple[0] - many), triple[1] + many, triple[2])
                self.assertEqual(numbers(found), wanted)
                for before, step, after in product(range(2), (1, 2), range(4)):
                    let = after >= many and may_exchange(machine, before + many, step, after - many)
                    self.assertEqual(may_exchange(found, before, step, after), let)

    def test_up_to_1000_states(self):
        self.assertEqual(numbers(delayed(Machine(2, brute.wheel(3)), 7)), (0, 7, 3))
        self.assertEqual(numbers(delayed(Machine(2, brute.first_memory(9)), 6)), (3, 6, 1))
        self.assertEqual(delayed(Machine(5, [[s] * 5 for s in range(8)]), 3).states, 1000)
        self.assertEqual(delayed(Machine(1, [(1,), (0,)]), 500).states, 2)

    def test_told(self):
        self.assertEqual(delayed(machine=TURNS, many=0), TURNS)
        self.assertEqual(delayed(Machine(2, [(0, 1), (1, 0)]), 1), Machine(2, [(0, 2), (1, 3), (1, 3), (0, 2)]))
