"""Points 69 to 71: machines for three numbers."""

from itertools import product

from endsandround.builders import built, first_memory, last_memory, state_bound, wheel
from endsandround.court import numbers
from endsandround.errors import InvalidTriple, Refused
from endsandround.exactly import inexact_lengths
from endsandround.machines import Machine
from endsandround.reversible import is_reversible
from tests import brute
from tests.checks import WRONG_TRIPLES, Case, Odd


class PartsTest(Case):
    def test_first_memory(self):
        for first in (1, 2, 3, 7, 50, 100):
            machine = first_memory(first)
            steps = [(state + 1, state + 1) for state in range(first - 1)]
            steps += [(first, first + 1), (first, first), (first + 1, first + 1)]
            self.assertEqual(machine, Machine(2, steps))
            self.assertEqual(numbers(machine), (first, 0, 1))
        self.assertEqual(first_memory(first=1), Machine(2, [(1, 2), (1, 1), (2, 2)]))

    def test_last_memory(self):
        for last in (1, 2, 3, 7, 50, 100):
            machine = last_memory(last)
            self.assertEqual(machine, Machine(2, [(0, min(state + 1, last)) for state in range(last + 1)]))
            self.assertEqual(numbers(machine), (0, last, 1))
        self.assertEqual(last_memory(last=1), Machine(2, [(0, 1), (0, 1)]))

    def test_wheel(self):
        for step in (1, 2, 3, 7, 50, 100):
            machine = wheel(step)
            self.assertEqual(machine, Machine(2, brute.wheel(step)))
            self.assertEqual(numbers(machine), (0, 0, step))
            self.assertTrue(is_reversible(machine))
        self.assertEqual(wheel(step=1), Machine(2, [(0, 1), (1, 0)]))
        self.assertEqual(wheel(2), Machine(2, [(2, 3), (3, 2), (0, 0), (1, 1)]))


def bound(first, last, step):
    return max(1, (first + 2) * (first > 0) + (last + 1) * (last > 0) + 2 * step * (step > 1))


class BuiltTest(Case):
    def test_numbers_and_sizes(self):
        some = [*product((0, 1, 2, 5), (0, 1, 3), (1, 2, 3, 6)), (198, 0, 1), (0, 199, 1), (0, 0, 100), (60, 60, 38),
                (100, 97, 1), (1, 0, 98), (0, 1, 99)]
        for triple in some:
            machine = built(triple)
            self.assertEqual(machine.commands, 2)
            self.assertLessEqual(machine.states, bound(*triple))
            self.assertLessEqual(bound(*triple), 200)
            self.assertEqual(numbers(machine), triple)
            self.assertEqual(built(list(triple)), machine)
            self.assertIsNone(inexact_lengths(machine))
        self.assertEqual(numbers(built(triple=(1, 1, 2))), (1, 1, 2))

    def test_harmless_if_allowed(self):
        for triple in product((0, 1, 2), (0, 1), (1, 2)):
            machine = built(triple)
            for many in range(5):
                for reordering in brute.reorderings(many):
                    self.assertEqual(brute.is_harmless(machine, reordering), brute.is_allowed(triple, reordering))

    def test_refused(self):
        for triple in ((199, 0, 1), (0, 200, 1), (0, 0, 101), (100, 98, 1), (60, 60, 39), (10 ** 30, 0, 1),
                       (0, 10 ** 18, 5), (3, 4, 10 ** 18)):
            self.raises_at(Refused, bound(*triple), built, triple)
            self.raises_at(Refused, bound(*triple), built, list(triple))

    def test_wrong_triples(self):
        for value, at in (*WRONG_TRIPLES, (Odd(), 3), ((0, 0, Odd()), 2), ((0, Odd(), 0), 1), (range(3), 3)):
            self.raises_at(InvalidTriple, at, built, value)
            self.raises_at(InvalidTriple, at, state_bound, value)


class StateBoundTest(Case):
    def test_as_told(self):
        for first, last, step in product((0, 1, 2, 9, 10 ** 30), (0, 1, 2, 8, 10 ** 20), (1, 2, 3, 100)):
            wanted = max(1, first + 2 if first else 0, last + 1, 3 if step > 1 else 0)
            self.assertEqual(state_bound((first, last, step)), wanted)
            self.assertEqual(state_bound([first, last, step]), wanted)
        self.assertEqual(state_bound(triple=(0, 0, 1)), 1)

    def test_facts(self):
        for machine in (*brute.small_machines(), *brute.near_machines(711, 100), *brute.random_machines(712, 60)):
            triple = numbers(machine)
            if triple is not None:
                self.assertGreaterEqual(machine.states, state_bound(triple))
        for many in range(1, 6):
            self.assertEqual(first_memory(many).states, state_bound((many, 0, 1)))
            self.assertEqual(last_memory(many).states, state_bound((0, many, 1)))
        self.assertEqual(numbers(Machine(2, [(1, 0), (0, 2), (2, 1)])), (0, 0, 2))
        self.assertEqual(state_bound((0, 0, 2)), 3)
