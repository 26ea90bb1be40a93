"""Point 13: gaps and their rounds."""

import unittest

from endsandround.errors import Refused
from endsandround.gaps import gap_pairs, rounds
from endsandround.layers import settled_behind
from endsandround.machines import Machine
from tests import brute
from tests.checks import Case


def lots(machine, gap):
    u = settled_behind(machine)
    commands = range(machine.commands)
    return [gap_pairs(machine, u, a, c, gap) for a in commands for c in commands if a < c]


class GapPairsTest(Case):
    def test_as_by_all_rows(self):
        for machine in brute.random_machines(41, 60):
            for before in range(3):
                for gap in range(3):
                    for a in range(machine.commands):
                        for c in range(machine.commands):
                            told = gap_pairs(machine, before, a, c, gap)
                            self.assertEqual(told, brute.gap_pairs(machine, before, a, c, gap))

    def test_told(self):
        machine = Machine(2, [(1, 0), (0, 2), (2, 1)])
        self.assertEqual(gap_pairs(machine, 0, 0, 1, 0), ((0, 2), (1, 0), (2, 1)))
        self.assertEqual(gap_pairs(machine=machine, before=0, a=1, c=0, gap=0), ((0, 1), (1, 2), (2, 0)))
        self.is_all_tuples(gap_pairs(machine, 0, 0, 1, 3))

    def test_great_counts_and_gaps(self):
        machine = brute.beside(brute.wheel(3), brute.last_memory(2))
        start, period = rounds(machine)
        self.assertEqual((start, period), (2, 3))
        for gap in (9998, 9999, 10000):
            told = gap_pairs(machine, 10 ** 60, 0, 1, gap)
            self.assertEqual(told, gap_pairs(machine, 9, 0, 1, gap % period + period))
        self.assertNotEqual(gap_pairs(machine, 9, 0, 1, 9999), gap_pairs(machine, 9, 0, 1, 10000))

    def test_one_state(self):
        self.assertEqual(gap_pairs(Machine(2, [(0, 0)]), 5, 0, 1, 10000), ((0, 0),))


class RoundsTest(Case):
    def test_one_command(self):
        self.assertEqual(rounds(Machine(1, [(1,), (2,), (0,), (2,)])), (0, 1))
        self.assertEqual(rounds(machine=Machine(1, [(0,)])), (0, 1))

    def test_one_state(self):
        self.assertEqual(rounds(Machine(3, [(0, 0, 0)])), (0, 1))

    def test_least_period_then_least_start(self):
        met = {}
        for machine in (*brute.near_machines(42, 80), *brute.random_machines(42, 40, commands=(2, 3))):
            start, period = rounds(machine)
            met[(start, period)] = True
            told = [lots(machine, gap) for gap in range(start + 3 * period + 60)]
            self.assertTrue(all(told[n] == told[n + period] for n in range(start, len(told) - period)))
            if start:
                self.assertNotEqual(told[start - 1], told[start - 1 + period])
            for less in range(1, period):
                self.assertFalse(all(told[n] == told[n + less] for n in range(start, start + period)))
        self.assertGreater(len(met), 8)

    def test_the_limit(self):
        parts = (brute.wheel(2), brute.wheel(3), brute.wheel(49), brute.wheel(17))
        self.assertEqual(rounds(brute.beside(*parts, brute.last_memory(2))), (2, 4998))
        self.raises_at(Refused, 5000, rounds, brute.beside(*parts, brute.last_memory(3)))

    def test_rounds_of_all_commands_together(self):
        self.assertEqual(rounds(brute.wheels_by_command((3, 4, 5))), (0, 60))
        self.assertEqual(rounds(brute.wheels_by_command((13, 16, 23))), (0, 4784))
        self.raises_at(Refused, 5000, rounds, brute.wheels_by_command((13, 17, 23)))

    def test_far_beyond_the_limit(self):
        machine = brute.beside(*[brute.wheel(step) for step in (2, 3, 5, 7, 11, 13)])
        self.raises_at(Refused, 5000, rounds, machine)


if __name__ == "__main__":
    unittest.main()
