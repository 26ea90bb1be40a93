"""Point 58: free machines."""

from itertools import product

from endsandround.court import numbers
from endsandround.errors import InvalidTriple
from endsandround.exactly import inexact_lengths
from endsandround.freest import free_machine
from endsandround.machines import effects_of_length
from endsandround.rowkinds import kind_count
from tests import brute
from tests.checks import WRONG_TRIPLES, Case


def bound(triple, commands, length):
    first, last, step = triple
    return commands ** (first + 1) + commands ** last + commands * step * (length + 2)


class FreestTest(Case):
    def is_right(self, triple, commands, length):
        machine = free_machine(triple, commands, length)
        self.assertEqual(machine.commands, commands)
        self.assertLessEqual(machine.states, bound(triple, commands, length))
        self.assertEqual(numbers(machine), triple)
        self.assertIsNone(inexact_lengths(machine))
        return machine

    def test_tells_all_rows_apart_that_are_not_alike(self):
        for first, last, step in product((0, 1, 2), (0, 1, 2), (1, 2, 3)):
            for commands, length in ((2, 0), (2, 3), (2, 6), (3, 4)):
                machine = self.is_right((first, last, step), commands, length)
                for many in range(length + 1):
                    kinds = {}
                    for row in brute.rows(commands, many):
                        kinds.setdefault(brute.effect(machine, row), []).append(row)
                    for rows in kinds.values():
                        for row in rows:
                            self.assertTrue(brute.are_alike((first, last, step), rows[0], row))
                    self.assertEqual(len(kinds), kind_count((first, last, step), commands, many))

    def test_numbers_and_sizes(self):
        for triple in product((0, 1, 3), (0, 1, 2), (1, 2, 4)):
            for commands, length in ((2, 10), (3, 7), (5, 1), (4, 0)):
                self.is_right(triple, commands, length)

    def test_longer_rows(self):
        for triple, commands, length in (((1, 1, 1), 2, 40), ((0, 0, 2), 2, 20), ((0, 2, 1), 3, 12), ((3, 0, 1), 2, 30)):
            machine = self.is_right(triple, commands, length)
            for many in (length - 1, length):
                self.assertEqual(len(effects_of_length(machine, many)), kind_count(triple, commands, many))

    def test_up_to_1000_states(self):
        for triple, commands, length in (
            ((0, 0, 1), 2, 496), ((0, 0, 1), 5, 196), ((8, 0, 1), 2, 200), ((0, 9, 1), 2, 200), ((7, 7, 3), 2, 60),
            ((3, 2, 2), 5, 20), ((0, 0, 49), 5, 2), ((2, 3, 20), 3, 13),
        ):
            self.assertLessEqual(bound(triple, commands, length), 1000)
            self.is_right(triple, commands, length)

    def test_told(self):
        self.assertEqual(numbers(free_machine(triple=[1, 0, 2], commands=2, length=3)), (1, 0, 2))
        triple = [0, 1, 2]
        free_machine(triple, 2, 3)
        self.assertEqual(triple, [0, 1, 2])

    def test_wrong_triples(self):
        for value, at in WRONG_TRIPLES:
            self.raises_at(InvalidTriple, at, free_machine, value, 2, 3)
