"""Points 64 and 65: machines side by side, and machines that take turns."""

from itertools import product
from math import lcm
from random import Random

from endsandround.court import may_exchange, numbers
from endsandround.errors import Refused
from endsandround.exactly import is_exact
from endsandround.machines import Machine
from endsandround.sides import combined, go_together, side_by_side, taking_turns
from tests import brute
from tests.checks import Case

TURNS = Machine(2, [(1, 0), (0, 2), (2, 1)])


def some_machines():
    yield from brute.near_machines(641, 25, commands=(2,), states=(2, 3, 4))
    yield from brute.random_machines(642, 10, commands=(2,), states=(1, 2, 3))
    for steps in (brute.wheel(2), brute.wheel(3), brute.first_memory(1), brute.last_memory(2), brute.first_memory(2),
                  brute.chain(3), brute.short_memory(1, 2)):
        yield Machine(2, steps)


class SideBySideTest(Case):
    def test_states(self):
        random = Random(643)
        for machine in brute.random_machines(644, 30):
            n = random.choice((1, 2, 3, 4))
            other = Machine(machine.commands, [[random.randrange(n) for _ in range(machine.commands)] for _ in range(n)])
            both = side_by_side(machine, other)
            self.assertEqual((both.commands, both.states), (machine.commands, machine.states * n))
            for s, t, command in product(range(machine.states), range(n), range(machine.commands)):
                self.assertEqual(both.steps[s * n + t][command], machine.steps[s][command] * n + other.steps[t][command])

    def test_facts(self):
        machines = list(some_machines())
        random = Random(645)
        places = [p for many in range(5) for p in brute.reorderings(many)]
        for _ in range(60):
            one, other = random.choice(machines), random.choice(machines)
            both = side_by_side(one, other)
            self.assertEqual(numbers(both), combined(numbers(one), numbers(other)))
            for reordering in random.sample(places, 6):
                wanted = brute.is_harmless(one, reordering) and brute.is_harmless(other, reordering)
                self.assertEqual(brute.is_harmless(both, reordering), wanted)
            for before, step, after in product(range(3), (1, 2, 3), range(3)):
                wanted = may_exchange(one, before, step, after) and may_exchange(other, before, step, after)
                self.assertEqual(may_exchange(both, before, step, after), wanted)
            for length in range(9):
                if is_exact(one, length) and is_exact(other, length):
                    self.assertTrue(is_exact(both, length))

    def test_great_ones(self):
        one, other = Machine(5, [[(s + c // 2) % 10 for c in range(5)] for s in range(10)]), TURNS
        self.assertEqual(side_by_side(one, one).states, 100)
        self.assertEqual(numbers(side_by_side(one, one)), numbers(one))
        self.assertEqual(numbers(side_by_side(Machine(2, brute.wheel(7)), other)), (0, 0, 14))

    def test_told(self):
        both = side_by_side(one=TURNS, other=Machine(2, [(0, 0), (1, 0)]))
        self.assertEqual(both.steps[2 * 2 + 1], (2 * 2 + 1, 1 * 2 + 0))
        self.is_all_tuples(both.steps)

    def test_unlike_numbers_of_commands(self):
        for one, other in ((TURNS, Machine(1, [(0,)])), (Machine(3, [(0, 0, 0)]), TURNS)):
            self.raises_at(Refused, 0, side_by_side, one, other)


class CombinedTest(Case):
    def test_as_told(self):
        for one, other in product(product((0, 1, 5), (0, 2), (1, 4, 6)), repeat=2):
            wanted = (max(one[0], other[0]), max(one[1], other[1]), lcm(one[2], other[2]))
            self.assertEqual(combined(one, other), wanted)
            self.is_all_tuples(combined(one, other))
        self.assertEqual(combined((2, 0, 4), (0, 1, 6)), (2, 1, 12))
        self.assertEqual(combined(one=(2, 0, 10 ** 18), other=(0, 10 ** 30, 6)), (2, 10 ** 30, 3 * 10 ** 18))
        self.assertIsNone(combined(None, (0, 0, 1)))
        self.assertIsNone(combined((0, 0, 1), None))
        self.assertIsNone(combined(None, None))


class TakingTurnsTest(Case):
    def test_states(self):
        machines = list(brute.random_machines(646, 12))
        for one, other in product(machines, repeat=2):
            both = taking_turns(one, other)
            n = other.states
            self.assertEqual((both.commands, both.states), (one.commands + other.commands, one.states * n))
            for s, t in product(range(one.states), range(n)):
                for command in range(one.commands):
                    self.assertEqual(both.steps[s * n + t][command], one.steps[s][command] * n + t)
                for command in range(other.commands):
                    self.assertEqual(both.steps[s * n + t][one.commands + command], s * n + other.steps[t][command])

    def test_go_together(self):
        found = {True: 0, False: 0}
        for machine in (*brute.small_machines(), *brute.random_machines(647, 60), *brute.near_machines(648, 30)):
            wanted = all(
                brute.effect(machine, (a, c)) == brute.effect(machine, (c, a))
                for a, c in product(range(machine.commands), repeat=2)
            )
            self.assertIs(go_together(machine), wanted)
            found[wanted] += 1
        self.assertTrue(min(found.values()) > 20)
        self.assertIs(go_together(machine=Machine(3, [(0, 1, 1), (1, 0, 0)])), True)
        self.assertIs(go_together(Machine(3, [(0, 1, 0), (1, 0, 0)])), False)

    def test_facts(self):
        machines = [*brute.near_machines(649, 14, states=(2, 3)), *brute.random_machines(650, 10, states=(1, 2, 3)),
                    Machine(2, [(1, 2), (2, 0), (0, 1)]), Machine(1, [(1,), (1,)]), Machine(2, [(0, 0), (0, 1)])]
        found = {}
        for one, other in product(machines, repeat=2):
            wanted = (0, 0, 1) if go_together(one) and go_together(other) else None
            found[wanted] = True
            self.assertEqual(numbers(taking_turns(one=one, other=other)), wanted)
        self.assertEqual(len(found), 2)
        for machine in brute.random_machines(651, 40):
            idle = Machine(machine.commands + 1, [(state, *entry) for state, entry in enumerate(machine.steps)])
            self.assertEqual(numbers(idle), (0, 0, 1) if go_together(machine) else None)
